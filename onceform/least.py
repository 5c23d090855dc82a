"""The least worth of a form, and papers that show that no worth is less than a number."""

from onceform.bits import doubled, listed
from onceform.changes import fixed
from onceform.forms import unknowns
from onceform.tables import table_of


def floor(form):
    """A number that no worth of the form is less than: the NUMBER of the set 0, and all others below 0."""
    return sum([number for members, number in form if members == 0 or number < 0])


def least(form, many):
    """The tuple of the form's least worth, the least GIVEN that has it, and a paper for it."""
    table = table_of(form, many)
    number = min(table)
    # As in the table, a SET beyond the GIVENs counts for nothing.
    size = doubled(many)
    inside = [(members, own) for members, own in form if members < size]
    return (number, table.index(number), paper_for(inside, number))


def paper_for(form, number):
    """A paper that shows the number, which no worth of the form is less than."""
    if floor(form) >= number:
        return 0
    k = heaviest(form)
    return (k, paper_for(fixed(form, k, 1), number), paper_for(fixed(form, k, 0), number))


def heaviest(form):
    """The unknown that the NUMBERs below 0 hang on most."""
    # The floor lies below the worths by these NUMBERs alone, so a choice there raises it soonest.
    weights = {}
    for members, number in form:
        if number < 0:
            for k in listed(members):
                weights[k] = weights.get(k, 0) + number
    return min([(weights[k], k) for k in sorted(weights)])[1]


def shows(form, number, paper):
    """Whether the paper shows the number for the form."""
    # An unknown that gets a bit never makes the floor less, so whatever stands below shows the number too.
    if floor(form) >= number:
        return True
    if not isinstance(paper, tuple):
        return False
    # Where the form has not the unknown, both papers are asked of the form itself, and of like ones one is enough.
    if (unknowns(form) & doubled(paper[0])) == 0 and paper[1] == paper[2]:
        return shows(form, number, paper[1])
    ones = fixed(form, paper[0], 1)
    others = fixed(form, paper[0], 0)
    return shows(ones, number, paper[1]) and shows(others, number, paper[2])
