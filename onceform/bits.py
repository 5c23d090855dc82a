"""Sets of unknowns and GIVENs, bit by bit."""


def doubled(many):
    """The number 1 doubled many times: how many GIVENs there are, and the set of the unknown many alone."""
    size = 1
    for turn in range(many):
        size = size * 2
    return size


def bits_of(given, many):
    """The list of the bits that a GIVEN gives the unknowns 0 to many - 1."""
    bits = []
    for k in range(many):
        bits.append(given % 2)
        given = given // 2
    return bits


def listed(members):
    """The list of the unknowns in a set, rising."""
    return [k for k, bit in enumerate(bits_of(members, members.bit_length())) if bit == 1]


def lowest(members):
    """The set of the least unknown of a set alone, or 0."""
    return members - (members & (members - 1))


def given_of(bits):
    """The GIVEN that gives each unknown k the bit at place k of the list."""
    given = 0
    for bit in reversed(bits):
        given = given * 2 + bit
    return given
