"""Formulas over the inputs of rows of gates, and claims that wires, read as a word, are worth what a formula is."""

from onceform.bits import doubled, given_of
from onceform.changes import first_set
from onceform.forms import less, made, plus, times, worth
from onceform.gates import bits_for, read_back, steps_within
from onceform.tables import form_of, paired_tables

# From so many tuples on a form may well grow far beyond them as further rows are put away.
VERY_MANY = 20000


def form_of_formula(formula):
    """The form of a formula, over the inputs."""
    if formula[0] == "number":
        return made([(0, formula[1])])
    if formula[0] == "word":
        return word_form(formula[1], formula[2])
    one = form_of_formula(formula[1])
    other = form_of_formula(formula[2])
    if formula[0] == "plus":
        return plus(one, other)
    if formula[0] == "less":
        return less(one, other)
    return product(one, other)


def word_form(wires, below):
    """The form of a list of wires read as a word, where below is True below nought too."""
    told = [(doubled(wire), doubled(place)) for place, wire in enumerate(wires)]
    if below and told:
        told[-1] = (told[-1][0], -told[-1][1])
    return made(told)


def product(one, other):
    """The product of two forms, which may have very many tuples."""
    tables = paired_tables(one, other)
    if tables is None:
        return times(one, other)
    return form_of([first * second for first, second in zip(tables[0], tables[1])])


def worth_of(formula, given):
    """The formula's worth at a GIVEN of the inputs."""
    if formula[0] == "number":
        return formula[1]
    if formula[0] == "word":
        return worth(word_form(formula[1], formula[2]), given)
    one = worth_of(formula[1], given)
    other = worth_of(formula[2], given)
    if formula[0] == "plus":
        return one + other
    if formula[0] == "less":
        return one - other
    return one * other


def judged(ins, rows, claim):
    """The tuple of "right" and the steps that show it, or of "wrong" and the least GIVEN that shows it."""
    form = claim_form(claim)
    steps = steps_within(ins, rows, form, VERY_MANY)
    if len(steps) <= len(rows):
        # A claim that is wrong needs no steps, which may be too long to be made at all.
        given = first_wrong(ins, rows, claim)
        if given is not None:
            return ("wrong", given)
        steps = read_back(ins, rows, form)
    given = first_left(steps[-1], claim[3])
    if given is not None:
        return ("wrong", given)
    return ("right", steps)


def claim_form(claim):
    """The form over the wires of a claim's word less its formula."""
    return less(word_form(claim[0], claim[1]), form_of_formula(claim[2]))


def first_left(form, rest):
    """The least GIVEN at which the form's worth is other than 0, or leaves another rest than 0, or None."""
    return first_set([(members, number) for members, number in form if not is_nought(number, rest)])


def is_nought(number, rest):
    """Whether a number is 0 or, where the rest is not 0, leaves the rest 0 by it."""
    return number == 0 if rest == 0 else number % rest == 0


def first_wrong(ins, rows, claim):
    """The least GIVEN at which the claim does not hold, or None, gone through one by one."""
    word = word_form(claim[0], claim[1])
    for given in range(doubled(ins)):
        wires = given_of(bits_for(ins, rows, given))
        if not is_nought(worth(word, wires) - worth_of(claim[2], given), claim[3]):
            return given
    return None


def walks(ins, rows, claim, steps):
    """Whether a list of lists is just the list of steps for a claim, and the last one shows that it holds."""
    # Steps longer than all those handed in are unlike them, so they need not be gone on with.
    most = max([len(step) for step in steps], default=0)
    if steps_within(ins, rows, claim_form(claim), most) != steps:
        return False
    return first_left(steps[-1], claim[3]) is None
