"""Points 14 and 15: rows of gates, the bits and forms of their wires, and forms over wires that are read back."""

import random
import unittest

import byhand
from byhand import BIG
from onceform.gates import bits_for, read_back, wire_forms

# The sum of two numbers of two bits each, inputs 0 and 1 with 2 and 3: the wires 4, 7, 10 are its bits.
SUM = [("xor", 0, 2), ("and", 0, 2), ("xor", 1, 3), ("xor", 6, 5), ("and", 1, 3), ("and", 6, 5), ("or", 8, 9)]
EACH = [("fix", 0), ("fix", 1), ("not", 0), ("and", 0, 1), ("or", 0, 1), ("xor", 0, 1)]
ALIKE = [("and", 0, 0), ("or", 0, 0), ("xor", 0, 0), ("not", 1)]


def some_gates(count, seed):
    """Pairs of a number of inputs and rows, the same ones at each run."""
    source = random.Random(seed)
    told = [(0, []), (3, []), (0, [("fix", 1)]), (2, EACH), (1, ALIKE), (4, SUM)]
    while len(told) < count:
        ins = source.randrange(6)
        told.append((ins, byhand.some_rows(source, ins, source.randrange(1, 14))))
    return told


class BitsFor(unittest.TestCase):
    def test_each_gate(self):
        self.assertEqual(bits_for(2, EACH, 0), [0, 0, 0, 1, 1, 0, 0, 0])
        self.assertEqual(bits_for(2, EACH, 1), [1, 0, 0, 1, 0, 0, 1, 1])
        self.assertEqual(bits_for(2, EACH, 2), [0, 1, 0, 1, 1, 0, 1, 1])
        self.assertEqual(bits_for(2, EACH, 3), [1, 1, 0, 1, 0, 1, 1, 0])

    def test_a_wire_twice(self):
        self.assertEqual(bits_for(1, ALIKE, 0), [0, 0, 0, 0, 1])
        self.assertEqual(bits_for(1, ALIKE, 1), [1, 1, 1, 0, 0])

    def test_no_rows_and_no_inputs(self):
        self.assertEqual(bits_for(0, [], 0), [])
        self.assertEqual(bits_for(3, [], 6), [0, 1, 1])
        self.assertEqual(bits_for(0, [("fix", 1), ("not", 0)], 0), [1, 0])

    def test_sixteen_inputs_and_43_rows(self):
        source = random.Random(401)
        rows = byhand.some_rows(source, 16, 43)
        for given in [0, 2 ** 16 - 1] + [source.randrange(2 ** 16) for turn in range(200)]:
            told = bits_for(16, rows, given)
            self.assertEqual(len(told), 59)
            self.assertEqual(told, byhand.wire_bits(16, rows, given))

    def test_as_by_hand(self):
        for ins, rows in some_gates(60, 402):
            for given in range(2 ** ins):
                told = bits_for(ins, rows, given)
                self.assertEqual(told, byhand.wire_bits(ins, rows, given))
                self.assertTrue(all(type(its) is int for its in told))


class WireForms(unittest.TestCase):
    def test_each_gate(self):
        self.assertEqual(wire_forms(2, EACH), [
            [(1, 1)], [(2, 1)], [], [(0, 1)], [(0, 1), (1, -1)], [(3, 1)], [(1, 1), (2, 1), (3, -1)],
            [(1, 1), (2, 1), (3, -2)]])

    def test_a_wire_twice(self):
        self.assertEqual(wire_forms(1, ALIKE), [[(1, 1)], [(1, 1)], [(1, 1)], [], [(0, 1), (1, -1)]])

    def test_no_rows_and_no_inputs(self):
        self.assertEqual(wire_forms(0, []), [])
        self.assertEqual(wire_forms(3, []), [[(1, 1)], [(2, 1)], [(4, 1)]])
        self.assertEqual(wire_forms(0, [("fix", 1), ("not", 0), ("or", 0, 1)]), [[(0, 1)], [], [(0, 1)]])

    def test_as_the_bits_say(self):
        for ins, rows in some_gates(60, 403):
            forms = wire_forms(ins, rows)
            self.assertEqual(len(forms), ins + len(rows))
            for form in forms:
                self.assertIsNone(byhand.fault(form), form)
                self.assertTrue(all(members < 2 ** ins for members, number in form))
            for given in range(2 ** ins):
                self.assertEqual([byhand.worth(form, given) for form in forms], byhand.wire_bits(ins, rows, given))

    def test_sixteen_inputs_and_43_rows(self):
        source = random.Random(404)
        for turn in range(3):
            rows = byhand.some_rows(source, 16, 43)
            forms = wire_forms(16, rows)
            self.assertEqual(len(forms), 59)
            for given in [0, 2 ** 16 - 1] + [source.randrange(2 ** 16) for turn in range(20)]:
                self.assertEqual([byhand.worth(form, given) for form in forms], byhand.wire_bits(16, rows, given))

    def test_forms_of_very_many_tuples(self):
        ins = 12
        rows = [("xor", 0, 1)] + [("xor", k, ins + k - 2) for k in range(2, ins)]
        last = ins + len(rows) - 1
        rows += [("or", 0, 1)] + [("or", k, last + k - 1) for k in range(2, ins)]
        other = ins + len(rows) - 1
        rows += [("and", last, other), ("or", last, other), ("xor", last, other), ("and", last + 4, last - 4)]
        forms = wire_forms(ins, rows)
        parity = [(members, (-2) ** (bin(members).count("1") - 1)) for members in range(1, 2 ** ins)]
        any_of = [(members, -(-1) ** bin(members).count("1")) for members in range(1, 2 ** ins)]
        none_odd = [(members, number - dict(parity)[members]) for members, number in any_of]
        self.assertEqual(forms[last], parity)
        self.assertEqual(forms[other], any_of)
        self.assertEqual(forms[other + 1], parity)
        self.assertEqual(forms[other + 2], any_of)
        self.assertEqual(forms[other + 3], [entry for entry in none_odd if entry[1] != 0])
        for given in (0, 1, 255, 2049, 4095):
            self.assertEqual([byhand.worth(form, given) for form in forms], byhand.wire_bits(ins, rows, given))


class ReadBack(unittest.TestCase):
    def test_step_by_step(self):
        rows = [("and", 0, 1), ("or", 0, 2), ("not", 3)]
        self.assertEqual(read_back(2, rows, [(0, 5), (16, 2)]), [
            [(0, 5), (16, 2)], [(0, 7), (8, -2)], [(0, 7), (1, -2), (4, -2), (5, 2)], [(0, 7), (1, -2)]])

    def test_each_gate_over_its_own_wires(self):
        wanted = ([], [(0, 1)], [(0, 1), (1, -1)], [(3, 1)], [(1, 1), (2, 1), (3, -1)], [(1, 1), (2, 1), (3, -2)])
        for row, form in zip(EACH, wanted):
            self.assertEqual(read_back(2, [row], [(4, 1)]), [[(4, 1)], form])
        self.assertEqual(read_back(1, [("xor", 0, 0)], [(0, 1), (2, 3)]), [[(0, 1), (2, 3)], [(0, 1)]])

    def test_no_rows(self):
        for form in ([], [(0, -BIG)], [(1, 2), (7, 3)]):
            self.assertEqual(read_back(3, [], form), [form])

    def test_wires_that_the_form_has_not(self):
        self.assertEqual(read_back(2, EACH, [(1, 1), (2, BIG)]), [[(1, 1), (2, BIG)]] * 7)
        self.assertEqual(read_back(2, EACH, []), [[]] * 7)

    def test_a_sum_of_numbers(self):
        # The bits 4, 7, 10 of the sum, less the two numbers, come to 0.
        form = [(1, -1), (2, -2), (4, -1), (8, -2), (16, 1), (128, 2), (1024, 4)]
        steps = read_back(4, SUM, form)
        self.assertEqual(len(steps), 8)
        self.assertEqual(steps[0], form)
        self.assertEqual(steps[-1], [])

    def test_as_the_bits_say(self):
        for seed, (ins, rows) in enumerate(some_gates(50, 405)):
            wires = ins + len(rows)
            for form in byhand.some_forms(wires, 6, 500 + seed):
                steps = read_back(ins, rows, form)
                self.assertEqual(len(steps), len(rows) + 1)
                self.assertEqual(steps[0], form)
                for place, step in enumerate(steps):
                    self.assertIsNone(byhand.fault(step), step)
                    # The wires of the last rows, as many as steps are made, are in no SET any more.
                    self.assertTrue(all(members < 2 ** (wires - place) for members, number in step))
                for given in range(2 ** ins):
                    whole = byhand.whole_given(byhand.wire_bits(ins, rows, given))
                    wanted = byhand.worth(form, whole)
                    self.assertEqual([byhand.worth(step, whole) for step in steps], [wanted] * len(steps))
                    self.assertEqual(byhand.worth(steps[-1], given), wanted)

    def test_each_step_at_all_givens_of_its_wires(self):
        for seed, (ins, rows) in enumerate([(2, EACH), (1, ALIKE), (3, [("or", 0, 1), ("xor", 3, 2), ("and", 4, 3)])]):
            wires = ins + len(rows)
            for form in byhand.some_forms(wires, 6, 600 + seed):
                steps = read_back(ins, rows, form)
                for place, step in enumerate(steps):
                    left = wires - place
                    for given in range(2 ** left):
                        bits = [byhand.bit(given, k) for k in range(left)]
                        for row in rows[left - ins:]:
                            bits.append(row[1] if row[0] == "fix" else byhand.said(row[0], [bits[w] for w in row[1:]]))
                        self.assertEqual(byhand.worth(step, given), byhand.worth(form, byhand.whole_given(bits)))

    def test_sixteen_inputs_and_43_rows(self):
        source = random.Random(406)
        rows = byhand.some_rows(source, 16, 43)
        form = [(0, BIG), (2 ** 57, -3), (2 ** 58, 1), (2 ** 58 + 1, 2)]
        steps = read_back(16, rows, form)
        self.assertEqual(len(steps), 44)
        for given in [0, 2 ** 16 - 1] + [source.randrange(2 ** 16) for turn in range(50)]:
            whole = byhand.whole_given(byhand.wire_bits(16, rows, given))
            self.assertEqual({byhand.worth(step, whole) for step in steps}, {byhand.worth(form, whole)})

    def test_as_the_forms_of_the_wires(self):
        for ins, rows in some_gates(40, 407):
            forms = wire_forms(ins, rows)
            for wire, form in enumerate(forms):
                self.assertEqual(read_back(ins, rows, [(2 ** wire, 1)])[-1], form)


if __name__ == "__main__":
    unittest.main()
