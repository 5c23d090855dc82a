"""The GIVENs at which a yes-no form has the worth 1, and choice trees."""

from onceform.bits import doubled, listed
from onceform.changes import fixed
from onceform.forms import form_from, made, unknowns, worth
from onceform.tables import table_of, whole_sum


def ways(form, many):
    """At how many GIVENs of that many unknowns a yes-no form has the worth 1."""
    # All other worths are 0, so the sum counts them.
    return whole_sum(form, many)


def all_ways(form, many):
    """The list of the GIVENs of that many unknowns at which a yes-no form has the worth 1, rising."""
    return [given for given, told in enumerate(table_of(form, many)) if told == 1]


def tree_of(form):
    """The plain choice tree of a yes-no form."""
    together = listed(unknowns(form))
    if not together:
        return worth(form, 0)
    # The worth hangs on each unknown that is in a SET, so the two trees below are never alike.
    k = together[0]
    return (k, tree_of(fixed(form, k, 1)), tree_of(fixed(form, k, 0)))


def form_of_tree(tree):
    """The form of a choice tree."""
    return form_below(tree, 0, 0)


def form_below(tree, ones, noughts):
    """The form of a tree below choices at which the unknowns of the set ones had the bit 1, and of noughts 0."""
    if not isinstance(tree, tuple):
        return made([(0, tree)])
    bit = doubled(tree[0])
    # What a second choice by the same unknown leaves out may be very long and is not gone through.
    if (ones & bit) != 0:
        return form_below(tree[1], ones, noughts)
    if (noughts & bit) != 0:
        return form_below(tree[2], ones, noughts)
    return chosen(bit, form_below(tree[1], ones | bit, noughts), form_below(tree[2], ones, noughts | bit))


def chosen(bit, ones, others):
    """The form that is ones where the unknown, told by its bit, has 1, else others; neither has the unknown."""
    numbers = dict(others)
    for members, number in ones:
        numbers[members | bit] = number
    for members, number in others:
        numbers[members | bit] = numbers.get(members | bit, 0) - number
    return form_from(numbers)
