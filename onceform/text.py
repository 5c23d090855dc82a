"""Forms as texts: how they are written and read."""

from onceform.bits import doubled, listed
from onceform.errors import NoForm
from onceform.forms import is_form
from onceform.statements import LETTERS

FIGURES = "0123456789"


def form_shown(form):
    """The text of a form."""
    if not form:
        return "0"
    parts = [shown_sign(number) + shown_tuple(members, abs(number)) for members, number in form]
    ahead = "-" if form[0][1] < 0 else ""
    # The first tuple has its sign alone ahead of it, and no plus.
    return ahead + "".join(parts)[len(shown_sign(form[0][1])):]


def shown_sign(number):
    """What stands between a tuple with this NUMBER and the one ahead of it."""
    return " - " if number < 0 else " + "


def shown_tuple(members, number):
    """The text of a tuple, its NUMBER being without the sign."""
    if number == 1 and members != 0:
        return shown_set(members)
    return str(number) + shown_set(members)


def shown_set(members):
    """The letters of a set, rising."""
    return "".join([LETTERS[k] for k in listed(members)])


def form_read(text):
    """The form that is written so, or NoForm."""
    if text == "0":
        return []
    words = text.split(" ")
    # With the sign of the first tuple put in, signs and tuples come in turn.
    if text.startswith("-"):
        words[0] = words[0][1:]
        words.insert(0, "-")
    else:
        words.insert(0, "+")
    if len(words) % 2 != 0:
        raise NoForm("a tuple or a sign is missing")
    form = [read_tuple(sign, word) for sign, word in zip(words[0::2], words[1::2])]
    if not is_form(form):
        raise NoForm("the tuples do not rise")
    return form


def read_tuple(sign, word):
    """The tuple that is written so behind its sign."""
    if sign != "+" and sign != "-":
        raise NoForm("a sign is missing")
    letters = word.lstrip(FIGURES)
    number = read_number(word[:len(word) - len(letters)], letters)
    return (read_set(letters), -number if sign == "-" else number)


def read_number(figures, letters):
    """The NUMBER without its sign that is written so ahead of the letters."""
    if figures == "" and letters != "":
        return 1
    if figures == "" or figures[0] == "0" or (figures == "1" and letters != ""):
        raise NoForm("a number is not written so")
    # Figure by figure, as int does not take very many at once.
    number = 0
    for figure in figures:
        number = number * 10 + int(figure)
    return number


def read_set(letters):
    """The set of the letters."""
    members = 0
    last = -1
    for letter in letters:
        k = LETTERS.find(letter)
        # As the letters must rise from above -1, each of them is one.
        if k <= last:
            raise NoForm("letters do not rise")
        members = members + doubled(k)
        last = k
    return members
