"""Tables: the worths of a form at the GIVENs 0, 1, 2 and so on."""

from onceform.bits import doubled
from onceform.forms import unknowns


def gathered(numbers, sign):
    """The list in which, unknown by unknown, an entry with it takes in sign times the one without it."""
    turns = len(numbers).bit_length() - 1
    # Each turn takes the least bit of the places and puts it back as the greatest, so that after the last turn
    # all entries stand in their old order.
    for turn in range(turns):
        without = numbers[0::2]
        numbers = without + [number + sign * low for number, low in zip(numbers[1::2], without)]
    return numbers


def table_of(form, many):
    """The list of the form's worths at all GIVENs of that many unknowns."""
    numbers = dict(form)
    # A SET beyond the GIVENs has the product 0 at each of them and is left out.
    return gathered([numbers.get(members, 0) for members in range(doubled(many))], 1)


def paired_tables(one, other):
    """The tables of two forms, or None where it is shorter to go through all pairs of their tuples."""
    many = (unknowns(one) | unknowns(other)).bit_length()
    # Forms of very many tuples over few unknowns have far more pairs of tuples than GIVENs.
    if len(one) * len(other) <= (many + 1) * doubled(many):
        return None
    return (table_of(one, many), table_of(other, many))


def form_of(table):
    """The form with these worths, the table having one for each GIVEN of its unknowns."""
    return [(members, number) for members, number in enumerate(gathered(table, -1)) if number != 0]


def whole_sum(form, many):
    """The sum of the form's worths at all GIVENs of that many unknowns."""
    size = doubled(many)
    return sum([number * holders(members, size) for members, number in form if members < size])


def holders(members, size):
    """How many of size GIVENs have the bit 1 for each unknown of the set."""
    # Each unknown of the set leaves just half of the GIVENs.
    while members != 0:
        members = members & (members - 1)
        size = size // 2
    return size
