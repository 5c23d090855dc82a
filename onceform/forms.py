"""Forms: lists of tuples (SET, NUMBER), the SETs rising and no NUMBER 0."""


def form_from(numbers):
    """The form of a dict of NUMBERs by their SETs."""
    return [(members, numbers[members]) for members in sorted(numbers) if numbers[members] != 0]


def made(some):
    """The form of any list of tuples (SET, NUMBER)."""
    numbers = {}
    for members, number in some:
        numbers[members] = numbers.get(members, 0) + number
    return form_from(numbers)


def plus(one, other):
    """The sum of two forms."""
    return made(one + other)


def less(one, other):
    """The form one less the form other."""
    return plus(one, scaled(other, -1))


def times(one, other):
    """The product of two forms."""
    numbers = {}
    for members, number in one:
        for others, factor in other:
            # A bit times itself is the bit, so an unknown of both sets comes once.
            both = members | others
            numbers[both] = numbers.get(both, 0) + number * factor
    return form_from(numbers)


def scaled(form, number):
    """The form so many times."""
    return made([(members, own * number) for members, own in form])


def worth(form, given):
    """The form's worth at a GIVEN."""
    return sum([number for members, number in form if (members & given) == members])


def unknowns(form):
    """The set of all unknowns in the form's SETs."""
    together = 0
    for members, number in form:
        together = together | members
    return together


def is_form(some):
    """Whether a list of tuples of two whole numbers is a form."""
    last = -1
    for members, number in some:
        # As the SETs must rise from above -1, none is below 0 either.
        if members <= last or number == 0:
            return False
        last = members
    return True
