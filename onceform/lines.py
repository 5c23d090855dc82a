"""Lines that a desk is told: how they are read."""

from onceform.errors import NoLine
from onceform.statements import LETTERS
from onceform.text import FIGURES

SMALL_LETTERS = "abcdefghijklmnopqrstuvwxyz"
# What stands behind the first word of a line that asks, and behind that of a form made of others.
ASKED = {
    "show": ("name",),
    "worth": ("name", "number"),
    "alike": ("name", "name"),
    "rest": ("name", "name", "divisor"),
    "least": ("name",),
    "ways": ("name",),
    "unknowns": ("name",),
}
MADE = {
    "plus": ("name", "name"),
    "less": ("name", "name"),
    "times": ("name", "name"),
    "fixed": ("name", "letter", "bit"),
    "put": ("name", "letter", "name"),
}


def line_read(line):
    """The tuple of the name that gets a form or None, the line's word, and the list of what it speaks of, or NoLine.

    The word of a line with a text is = or :=, and the list holds the text.
    """
    words = line.split(" ")
    if len(words) > 2 and words[1] in ("=", ":=") and is_name(words[0]):
        return kept_read(words[0], words[1], line[len(words[0]) + len(words[1]) + 2:])
    return (None, words[0], things_read(ASKED.get(words[0]), words[1:]))


def kept_read(name, sign, text):
    """The tuple of a line whose text, behind the name and the sign, tells a form."""
    words = text.split(" ")
    if sign == "=" and words[0] in MADE:
        return (name, words[0], things_read(MADE[words[0]], words[1:]))
    return (name, sign, [text])


def things_read(kinds, words):
    """The list of what the words tell, each being of its kind; there are none for a word that begins no line."""
    if kinds is None or len(kinds) != len(words):
        raise NoLine("the line is not known")
    return [thing_read(kind, word) for kind, word in zip(kinds, words)]


def thing_read(kind, word):
    """The name, or the number, that a word of this kind tells."""
    if not is_of(kind, word):
        raise NoLine("a word of the line is not known")
    if kind == "name":
        return word
    if kind == "letter":
        return LETTERS.find(word)
    return int(word)


def is_of(kind, word):
    """Whether a word is of this kind."""
    if kind == "name":
        return is_name(word)
    if kind == "letter":
        return len(word) == 1 and word in LETTERS
    if kind == "bit":
        return word == "0" or word == "1"
    return is_number(word) and not (kind == "divisor" and word == "0")


def is_name(word):
    """Whether a word is a name."""
    return 1 <= len(word) <= 8 and all([letter in SMALL_LETTERS for letter in word])


def is_number(word):
    """Whether a word is a number by figures."""
    if word.startswith("0"):
        return word == "0"
    return 1 <= len(word) <= 18 and all([figure in FIGURES for figure in word])
