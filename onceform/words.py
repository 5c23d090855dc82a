"""The words not, and, or, xor, said of bits and of yes-no forms."""

from onceform.forms import less, plus, scaled, times
from onceform.tables import form_of, paired_tables


def bit_of_word(word, bits):
    """The bit that the word tells of its one or two bits."""
    if word == "not":
        return 1 - bits[0]
    if word == "and":
        return bits[0] & bits[1]
    if word == "or":
        return bits[0] | bits[1]
    return bits[0] ^ bits[1]


def form_of_word(word, parts):
    """The yes-no form that the word tells of its one or two yes-no forms."""
    if word == "not":
        return less([(0, 1)], parts[0])
    tables = paired_tables(parts[0], parts[1])
    if tables is None:
        return joined(word, parts[0], parts[1])
    return form_of([bit_of_word(word, pair) for pair in zip(tables[0], tables[1])])


def joined(word, one, other):
    """The form of one and, or, xor other."""
    both = times(one, other)
    if word == "and":
        return both
    # Where both are 1 their sum is 2: or leaves one of it, xor nothing.
    taken = -1 if word == "or" else -2
    return plus(plus(one, other), scaled(both, taken))
