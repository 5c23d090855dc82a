"""Tables: the worths of a form at the GIVENs 0, 1, 2 and so on."""

from onceform.forms import made


def doubled(many):
    """The number 1 doubled many times: how many GIVENs there are."""
    size = 1
    for turn in range(many):
        size = size * 2
    return size


def gathered(numbers, sign):
    """The list in which, unknown by unknown, an entry with it takes in sign times the one without it."""
    bit = 1
    while bit < len(numbers):
        numbers = gathered_once(numbers, bit, sign)
        bit = bit * 2
    return numbers


def gathered_once(numbers, bit, sign):
    """The step of gathered for one unknown, told by its bit."""
    return [
        number + sign * numbers[place - bit] if (place & bit) != 0 else number
        for place, number in enumerate(numbers)
    ]


def table_of(form, many):
    """The list of the form's worths at all GIVENs of that many unknowns."""
    numbers = dict(form)
    # A SET beyond the GIVENs has the product 0 at each of them and is left out.
    listed = [numbers.get(members, 0) for members in range(doubled(many))]
    return gathered(listed, 1)


def form_of(table):
    """The form with these worths, the table having one for each GIVEN of its unknowns."""
    return made(list(enumerate(gathered(table, -1))))


def whole_sum(form, many):
    """The sum of the form's worths at all GIVENs of that many unknowns."""
    size = doubled(many)
    return sum([number * holders(members, size) for members, number in form if members < size])


def holders(members, size):
    """How many of size GIVENs have the bit 1 for each unknown of the set."""
    # Each unknown of the set leaves just half of the GIVENs.
    while members != 0:
        members = members & (members - 1)
        size = size // 2
    return size
