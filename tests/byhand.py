"""The document's own words of forms, bit by bit, and lists to try them on. It draws nothing from the program."""

import random

BIG = 10 ** 59 + 7


def product(members, given):
    """1 where each unknown of the set has the bit 1 at the GIVEN, else 0."""
    k = 0
    while 2 ** k <= members:
        if members // 2 ** k % 2 == 1 and given // 2 ** k % 2 == 0:
            return 0
        k += 1
    return 1


def worth(some, given):
    return sum(number * product(members, given) for members, number in some)


def table(some, many):
    return [worth(some, given) for given in range(2 ** many)]


def fault(some):
    """What keeps a value from being a form, or None."""
    if not isinstance(some, list):
        return "no list"
    for entry in some:
        if not isinstance(entry, tuple) or len(entry) != 2:
            return f"no tuple of two: {entry!r}"
        if type(entry[0]) is not int or type(entry[1]) is not int:
            return f"no whole numbers: {entry!r}"
        if entry[0] < 0 or entry[1] == 0:
            return f"no SET, or the NUMBER 0: {entry!r}"
    sets = [entry[0] for entry in some]
    if any(after <= ahead for ahead, after in zip(sets, sets[1:])):
        return "the SETs do not rise"
    return None


def some_lists(many, count, seed):
    """Lists of tuples in any order, with SETs twice and NUMBERs 0, the same ones at each run."""
    source = random.Random(seed)
    numbers = (0, 1, -1, 2, -2, 3, -7, BIG, -BIG, BIG + 1)
    lists = [[]]
    while len(lists) < count:
        length = source.randrange(1, 12)
        lists.append([(source.randrange(2 ** many), source.choice(numbers)) for place in range(length)])
    return lists


def some_forms(many, count, seed):
    """Forms, the same ones at each run."""
    source = random.Random(seed)
    numbers = (1, -1, 2, -2, 5, -7, BIG, -BIG)
    forms = [[], [(0, 1)], [(0, -BIG)]]
    while len(forms) < count:
        sets = sorted({source.randrange(2 ** many) for place in range(source.randrange(1, 10))})
        forms.append([(members, source.choice(numbers)) for members in sets])
    return forms
