"""Rows of gates: the bits and the forms of all wires, and forms over wires that are read back."""

from onceform.bits import bits_of, doubled
from onceform.changes import put_in
from onceform.forms import made
from onceform.words import bit_of_word, form_of_word


def bits_for(ins, rows, given):
    """The list of the bits of all wires at a GIVEN for the inputs."""
    bits = bits_of(given, ins)
    for row in rows:
        if row[0] == "fix":
            bits.append(row[1])
        else:
            bits.append(bit_of_word(row[0], [bits[wire] for wire in row[1:]]))
    return bits


def wire_forms(ins, rows):
    """The list of the forms of all wires, over the inputs."""
    forms = single_wires(ins)
    for row in rows:
        forms.append(gate_form(row, forms))
    return forms


def single_wires(many):
    """The list of the forms that are one wire alone each."""
    return [[(doubled(wire), 1)] for wire in range(many)]


def gate_form(row, forms):
    """The form of the gate of a row, the list holding one form for each wire."""
    if row[0] == "fix":
        return made([(0, row[1])])
    return form_of_word(row[0], [forms[wire] for wire in row[1:]])


def read_back(ins, rows, form):
    """The list of forms that come as the rows' wires are put away from the last one on, the form itself first."""
    return steps_within(ins, rows, form, None)


def steps_within(ins, rows, form, most):
    """The list of read_back, but ended by the first form of more than most tuples; where most is None, whole."""
    wires = single_wires(ins + len(rows))
    steps = [list(form)]
    for place in range(len(rows) - 1, -1, -1):
        if most is not None and len(steps[-1]) > most:
            break
        gate = gate_form(rows[place], wires)
        steps.append(put_in(steps[-1], ins + place, gate))
    return steps
