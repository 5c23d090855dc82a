"""Few asks: a hidden form is found by asking its worths, one by one."""

from onceform.bits import doubled


def next_step(told, many, terms):
    """The next step to a hidden form of at most so many tuples: ("ask", GIVEN) or ("form", FORM)."""
    # What the worths are without the tuples that are found.
    left = dict(told)
    found = []
    few = few_sets(many, terms.bit_length())
    # Blocks of GIVENs, each halved from the one of all, that may hold SETs not found yet; the lowest stands last.
    # So all SETs below a block are found when it is looked at, and what is left in it comes of its own SETs alone.
    waiting = [(0, doubled(many))]
    while waiting and len(found) < terms:
        first, size = waiting.pop()
        given = first_open(left, first + size - 1, size, few[(terms - len(found)).bit_length() - 1])
        if given is None:
            continue
        if given not in left:
            return ("ask", given)
        if size == 1:
            found.append((first, left[first]))
            take_off(left, first, left[first])
        else:
            half = size // 2
            waiting.extend([(first + half, half), (first, half)])
    return ("form", found)


def few_sets(many, levels):
    """For each number below levels, the list of the sets of at most so many of that many unknowns, rising."""
    few = [[0] for most in range(levels)]
    bit = 1
    for turn in range(many):
        few = few[:1] + [more + with_unknown(fewer, bit) for fewer, more in zip(few, few[1:])]
        bit = bit * 2
    return few


def with_unknown(sets, bit):
    """The sets with the unknown, told by its bit, put into each."""
    return [members + bit for members in sets]


def first_open(left, last, size, few):
    """The first GIVEN of a block, told by its last one, that is not told or has a worth left, or None."""
    # Where the bit 1 for an unknown makes a form worth 0 everywhere, the tuples with the unknown and those without it
    # are as many, and with the bit 0 half of the tuples stay. So a form that is not empty has a worth other than 0
    # where few unknowns have the bit 0, as each of these halves the tuples.
    for noughts in few:
        if noughts >= size:
            return None
        if left.get(last - noughts) != 0:
            return last - noughts
    return None


def take_off(left, members, number):
    """Takes a tuple's worth off the worths that are left."""
    for given in list(left):
        if (given & members) == members:
            left[given] = left[given] - number
