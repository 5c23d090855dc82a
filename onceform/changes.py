"""Changes of forms: unknowns that get a bit, a new number or a yes-no form, and where two forms are unlike."""

from onceform.bits import doubled, listed
from onceform.forms import less, made, plus, times, unknowns


def without(form, bit):
    """The tuples of the form whose SETs do not have the unknown, told by its bit."""
    return [(members, number) for members, number in form if (members & bit) == 0]


def freed(form, bit):
    """The tuples of the form whose SETs have the unknown, with it taken out of them."""
    return [(members - bit, number) for members, number in form if (members & bit) != 0]


def fixed(form, k, bit):
    """The form of all worths where the unknown k has the bit."""
    own = doubled(k)
    if bit == 0:
        return without(form, own)
    return plus(without(form, own), freed(form, own))


def renamed(form, new):
    """The form in which each unknown k has become new[k]."""
    # Entries of new for unknowns that the form has not may be anything, so they are not looked at.
    pairs = [(doubled(k), doubled(new[k])) for k in listed(unknowns(form))]
    return made([(moved(members, pairs), number) for members, number in form])


def moved(members, pairs):
    """The set in which, for each pair, the second bit stands where the first one did."""
    told = 0
    for old, after in pairs:
        if (members & old) != 0:
            told = told | after
    return told


def is_yes_no(form):
    """Whether the form's worth is 0 or 1 at each GIVEN."""
    return times(form, form) == form


def put_in(form, k, other):
    """The form with the yes-no form other in the place of the unknown k."""
    own = doubled(k)
    return plus(without(form, own), times(freed(form, own), other))


def unlike(one, other):
    """The least GIVEN at which the worths of two forms are unlike, or None."""
    return first_set(less(one, other))


def unlike_by(one, other, m):
    """The least GIVEN at which the rests by m of the worths of two forms are unlike, or None."""
    return first_set([(members, number) for members, number in less(one, other) if number % m != 0])


def first_set(form):
    """The least SET of a form, or None."""
    # A SET whose product is 1 at a GIVEN is not greater than it: so at all lesser GIVENs the form is worth 0,
    # and at this one it is worth the NUMBER of the SET alone.
    return form[0][0] if form else None
