"""Statements: their forms, and how they are written and read."""

from onceform.bits import doubled
from onceform.errors import NoStatement
from onceform.forms import made
from onceform.words import form_of_word

LETTERS = "abcdefghijklmnop"
JOINING = ("and", "or", "xor")
# The signs of a text that come together, with their blanks; all others come one by one.
SPACED = ("not ", " and ", " or ", " xor ")


def form_of_statement(statement):
    """The form of a statement."""
    # The forms of the parts whose whole is still to come; kept in a list, so that no depth is too great.
    forms = []
    for part in reversed(parts_of(statement)):
        word = part[0]
        if word == "bit":
            forms.append([(doubled(part[1]), 1)])
        elif word == "fix":
            forms.append(made([(0, part[1])]))
        elif word == "not":
            forms.append(form_of_word(word, [forms.pop()]))
        else:
            last = forms.pop()
            forms.append(form_of_word(word, [forms.pop(), last]))
    return forms[0]


def parts_of(statement):
    """The list of the statement and all its parts, each ahead of its own parts, the last of these first."""
    parts = []
    waiting = [statement]
    while waiting:
        part = waiting.pop()
        parts.append(part)
        if part[0] == "not" or part[0] in JOINING:
            waiting.extend(part[1:])
    return parts


def bits_in(statement):
    """The list of the unlike bits of a statement, rising."""
    bits = {}
    for part in parts_of(statement):
        if part[0] == "bit":
            bits[part[1]] = True
    return sorted(bits)


def shown(statement):
    """The text of a statement."""
    word = statement[0]
    if word == "bit":
        return LETTERS[statement[1]]
    if word == "fix":
        return str(statement[1])
    if word == "not":
        return "not " + shown_part(statement[1])
    return shown_part(statement[1]) + " " + word + " " + shown_part(statement[2])


def shown_part(part):
    """The text of a statement that is a part of another one."""
    if part[0] in JOINING:
        return "(" + shown(part) + ")"
    return shown(part)


def read(text):
    """The statement that is written so, or NoStatement."""
    # The statements that are begun and lack their last part, and the open brackets. They are kept in a list, not in
    # calls within calls, so that no depth of a text is too great.
    begun = []
    part = None
    for token in tokens_of(text):
        if part is None:
            part = part_from(token, begun)
        else:
            part = part_after(token, part, begun)
    if part is None:
        raise NoStatement("a part is missing")
    part = with_joining(part, begun)
    if begun:
        raise NoStatement("a bracket is not closed")
    return part


def tokens_of(text):
    """The list of the words, with their blanks, and the single signs of a text."""
    tokens = []
    place = 0
    while place < len(text):
        token = token_at(text, place)
        tokens.append(token)
        place = place + len(token)
    return tokens


def token_at(text, place):
    """The word with its blanks, or else the single sign, at a place of a text."""
    for token in SPACED:
        if text.startswith(token, place):
            return token
    return text[place]


def part_from(token, begun):
    """The part that the token is, or None where it is a not or an opening bracket ahead of one."""
    if token == "not " or token == "(":
        begun.append((token.strip(),))
        return None
    if token == "0" or token == "1":
        return with_nots(("fix", int(token)), begun)
    k = LETTERS.find(token)
    if k < 0:
        raise NoStatement("a part is missing")
    return with_nots(("bit", k), begun)


def part_after(token, part, begun):
    """The part that ends with a closing bracket, or None where the token is an and, or, xor behind the part."""
    word = token.strip()
    if word in JOINING:
        if begun and begun[-1][0] in JOINING:
            raise NoStatement("brackets are missing between two of and, or, xor")
        begun.append((word, part))
        return None
    if token != ")":
        raise NoStatement("a part has a wrong sign behind it")
    part = with_joining(part, begun)
    if not begun:
        raise NoStatement("a bracket is not opened")
    begun.pop()
    return with_nots(part, begun)


def with_nots(part, begun):
    """The part with all the nots right ahead of it."""
    while begun and begun[-1][0] == "not":
        part = begun.pop() + (part,)
    return part


def with_joining(part, begun):
    """The part with the and, or, xor right ahead of it, if there is one."""
    if begun and begun[-1][0] in JOINING:
        return begun.pop() + (part,)
    return part
