"""Points 16 to 18: formulas, claims, how they are judged, and steps that show that they hold."""

import copy
import random
import unittest
from unittest import mock

import byhand
from onceform.claims import form_of_formula, judged, walks, worth_of

ALL = list(range(16))
# The last wire is always 0, as each of the first sixteen rows comes twice; but while half of these rows are put away
# the forms have some 2 ** 24 tuples.
LONG = [("or", k, (k + 8) % 16) for k in range(16)]
LONG += [("xor", 16, 17)] + [("xor", 30 + k, 16 + k) for k in range(2, 16)]


def word(wires, below=False):
    return ("word", wires, below)


def number(its):
    return ("number", its)


def sum_claim(first, second, rest=0):
    """The inputs, rows and claim of an adder; with a rest 2 ** k only the k low bits are read."""
    ins, rows, outs = byhand.adder(first, second)
    formula = ("plus", word(list(range(first))), word(list(range(first, ins))))
    return ins, rows, (outs[:rest.bit_length() - 1] if rest else outs, False, formula, rest)


def product_claim(first, second, rest=0):
    """The same for a multiplier."""
    ins, rows, outs = byhand.multiplier(first, second)
    formula = ("times", word(list(range(first))), word(list(range(first, ins))))
    return ins, rows, (outs[:rest.bit_length() - 1] if rest else outs, False, formula, rest)


def below_claim(many):
    """Two words that are read below nought are added, and so is the sum read, by a rest."""
    ins, rows, outs = byhand.adder(many, many)
    formula = ("plus", word(list(range(many)), True), word(list(range(many, ins)), True))
    return ins, rows, (outs[:many], True, formula, 2 ** many)


RIGHT = (
    sum_claim(1, 1), sum_claim(2, 2), sum_claim(3, 2), sum_claim(2, 4), sum_claim(3, 3), sum_claim(1, 5),
    sum_claim(3, 3, 8), sum_claim(3, 3, 2), sum_claim(4, 2, 4), below_claim(1), below_claim(2), below_claim(3),
    product_claim(1, 1), product_claim(2, 2), product_claim(3, 2), product_claim(1, 4), product_claim(3, 3),
    product_claim(3, 3, 8), product_claim(2, 3, 4), product_claim(2, 2, 1),
    (0, [], ([], False, number(0), 0)), (0, [], ([], True, number(12), 4)),
    (0, [("fix", 1)], ([0], False, number(1), 0)),
    (2, [], ([0, 1], True, word([0, 1], True), 0)), (2, [("not", 0)], ([2], False, ("less", number(1), word([0])), 0)),
    (1, [("and", 0, 0), ("fix", 0)], ([1, 2, 0], False, ("times", number(5), word([0])), 0)),
)


def other_rows(rows):
    """The rows with each one changed to each other gate over its wires, and to a fix."""
    for place, row in enumerate(rows):
        changed = [("fix", 0), ("fix", 1)]
        if row[0] != "fix":
            changed += [("not", row[1]), ("not", row[-1])]
            changed += [(gate, row[1], row[-1]) for gate in ("and", "or", "xor") if gate != row[0]]
        for other in changed:
            if other != row:
                yield rows[:place] + [other] + rows[place + 1:]


def other_claims(claim):
    """Claims that are somewhat unlike one."""
    wires, below, formula, rest = claim
    yield (wires[::-1], below, formula, rest)
    yield (wires, not below, formula, rest)
    yield (wires[1:], below, formula, rest)
    yield (wires + wires[-1:], below, formula, rest)
    yield (wires, below, ("plus", formula, number(1)), rest)
    yield (wires, below, ("less", number(0), formula), rest)
    for other in (0, 1, 2, 3, 4, 7, 8, 16, 10 ** 30):
        yield (wires, below, formula, other)


class FormOfFormula(unittest.TestCase):
    def test_numbers(self):
        self.assertEqual(form_of_formula(number(0)), [])
        self.assertEqual(form_of_formula(number(1)), [(0, 1)])
        self.assertEqual(form_of_formula(number(10 ** 12)), [(0, 10 ** 12)])

    def test_words(self):
        self.assertEqual(form_of_formula(word([])), [])
        self.assertEqual(form_of_formula(word([3])), [(8, 1)])
        self.assertEqual(form_of_formula(word([2, 0, 1])), [(1, 2), (2, 4), (4, 1)])
        self.assertEqual(form_of_formula(word(ALL)), [(2 ** k, 2 ** k) for k in range(16)])
        self.assertEqual(form_of_formula(word(ALL[::-1])), [(2 ** k, 2 ** (15 - k)) for k in range(16)])

    def test_words_read_below_nought(self):
        self.assertEqual(form_of_formula(word([], True)), [])
        self.assertEqual(form_of_formula(word([3], True)), [(8, -1)])
        self.assertEqual(form_of_formula(word([2, 0, 1], True)), [(1, 2), (2, -4), (4, 1)])
        low = [(2 ** k, 2 ** k) for k in range(15)]
        self.assertEqual(form_of_formula(word(ALL, True)), low + [(2 ** 15, -2 ** 15)])

    def test_an_input_twice_in_a_word(self):
        self.assertEqual(form_of_formula(word([0, 0])), [(1, 3)])
        self.assertEqual(form_of_formula(word([0, 0], True)), [(1, -1)])
        self.assertEqual(form_of_formula(word([1, 0, 1])), [(1, 2), (2, 5)])
        self.assertEqual(form_of_formula(word([1, 0, 1], True)), [(1, 2), (2, -3)])
        self.assertEqual(form_of_formula(word([5] * 16)), [(32, 2 ** 16 - 1)])
        self.assertEqual(form_of_formula(word([5] * 16, True)), [(32, -1)])

    def test_sums_differences_products(self):
        one, other = word([0, 1]), word([1, 2], True)
        self.assertEqual(form_of_formula(("plus", one, other)), [(1, 1), (2, 3), (4, -2)])
        self.assertEqual(form_of_formula(("less", one, other)), [(1, 1), (2, 1), (4, 2)])
        self.assertEqual(form_of_formula(("less", other, one)), [(1, -1), (2, -1), (4, -2)])
        self.assertEqual(form_of_formula(("times", one, other)), [(2, 2), (3, 1), (5, -2), (6, -4)])
        self.assertEqual(form_of_formula(("times", word([4]), word([4]))), [(16, 1)])
        self.assertEqual(form_of_formula(("less", one, one)), [])
        self.assertEqual(form_of_formula(("times", number(0), one)), [])
        self.assertEqual(form_of_formula(("less", number(0), number(7))), [(0, -7)])

    def test_as_the_worths_say(self):
        source = random.Random(701)
        for turn in range(250):
            ins = source.randrange(6)
            formula = byhand.a_formula(source, source.randrange(1, 16), ins)
            form = form_of_formula(formula)
            self.assertIsNone(byhand.fault(form), formula)
            worths = [worth_of(formula, given) for given in range(2 ** ins)]
            self.assertEqual(worths, [byhand.formula_worth(formula, given) for given in range(2 ** ins)])
            self.assertEqual(form, byhand.form_from(worths), formula)

    def test_forms_of_very_many_tuples(self):
        source = random.Random(702)
        two = ("times", word(ALL), word(ALL, True))
        other = ("times", word(ALL[::-1], True), word(ALL[3:] + ALL[:3]))
        for formula in (("times", ("times", two, two), ("times", other, two)), ("times", ("times", two, two), other)):
            form = form_of_formula(formula)
            self.assertIsNone(byhand.fault(form))
            self.assertTrue(all(members < 2 ** 16 for members, its in form))
            for given in [0, 1, 2 ** 15, 2 ** 16 - 1] + [source.randrange(2 ** 16) for turn in range(6)]:
                wanted = byhand.formula_worth(formula, given)
                self.assertEqual(sum(its for members, its in form if members & given == members), wanted)
                self.assertEqual(worth_of(formula, given), wanted)


class WorthOf(unittest.TestCase):
    def test_each_kind(self):
        self.assertEqual(worth_of(number(10 ** 12), 5), 10 ** 12)
        self.assertEqual([worth_of(word([2, 0]), given) for given in range(8)], [0, 2, 0, 2, 1, 3, 1, 3])
        self.assertEqual([worth_of(word([2, 0], True), given) for given in range(8)], [0, -2, 0, -2, 1, -1, 1, -1])
        self.assertEqual(worth_of(word([]), 3), 0)
        self.assertEqual(worth_of(word([], True), 3), 0)
        self.assertEqual(worth_of(word(ALL), 2 ** 16 - 1), 2 ** 16 - 1)
        self.assertEqual(worth_of(word(ALL, True), 2 ** 16 - 1), -1)
        self.assertEqual(worth_of(("plus", number(3), word([0, 0])), 1), 6)
        self.assertEqual(worth_of(("less", number(3), word([0, 1, 2])), 6), -3)
        self.assertEqual(worth_of(("times", number(3), word([0, 1], True)), 2), -6)

    def test_as_by_hand_with_sixteen_inputs(self):
        source = random.Random(703)
        for turn in range(100):
            formula = byhand.a_formula(source, 15, 16)
            for given in (0, 2 ** 16 - 1, source.randrange(2 ** 16)):
                told = worth_of(formula, given)
                self.assertIs(type(told), int)
                self.assertEqual(told, byhand.formula_worth(formula, given))


class Judged(unittest.TestCase):
    def agree(self, ins, rows, claim):
        """Judges a claim, with what is told of it by going through all GIVENs, and tells the GIVEN."""
        given = byhand.first_wrong(ins, rows, claim)
        wanted = ("wrong", given)
        if given is None:
            wanted = ("right", byhand.steps(ins, rows, byhand.claim_form(ins, claim)))
        self.assertEqual(judged(ins, rows, claim), wanted)
        return given

    def test_two_bits_are_added(self):
        claim = ([2, 3], False, ("plus", word([0]), word([1])), 0)
        rows = [("xor", 0, 1), ("and", 0, 1)]
        self.assertEqual(judged(2, rows, claim), ("right", [
            [(1, -1), (2, -1), (4, 1), (8, 2)], [(1, -1), (2, -1), (3, 2), (4, 1)], []]))
        self.assertEqual(judged(2, [("xor", 0, 1), ("or", 0, 1)], claim), ("wrong", 1))
        self.assertEqual(judged(2, [("or", 0, 1), ("and", 0, 1)], claim), ("wrong", 3))
        self.assertEqual(judged(2, rows, ([2], False, ("plus", word([0]), word([1])), 2)), ("right", [
            [(1, -1), (2, -1), (4, 1)], [(1, -1), (2, -1), (4, 1)], [(3, -2)]]))
        self.assertEqual(judged(2, rows, ([2], False, ("plus", word([0]), word([1])), 4)), ("wrong", 3))
        self.assertEqual(judged(2, rows, ([2, 3], True, ("plus", word([0]), word([1])), 0)), ("wrong", 3))
        self.assertEqual(judged(2, rows, ([2, 3], True, ("plus", word([0]), word([1])), 4))[0], "right")

    def test_claims_that_hold(self):
        for ins, rows, claim in RIGHT:
            with self.subTest(ins=ins, claim=claim):
                self.assertIsNone(self.agree(ins, rows, claim))
                self.assertEqual(len(judged(ins, rows, claim)[1]), len(rows) + 1)

    def test_another_gate_or_a_fix_row(self):
        wrong = 0
        for ins, rows, claim in RIGHT:
            for changed in other_rows(rows):
                wrong += self.agree(ins, changed, claim) is not None
        self.assertGreater(wrong, 500)

    def test_another_claim(self):
        wrong = 0
        for ins, rows, claim in RIGHT:
            for changed in other_claims(claim):
                wrong += self.agree(ins, rows, changed) is not None
        self.assertGreater(wrong, 150)

    def test_any_rows_and_claims(self):
        source = random.Random(704)
        right = 0
        for turn in range(300):
            ins = source.randrange(5)
            rows = byhand.some_rows(source, ins, source.randrange(9))
            wires = ins + len(rows)
            taken = [source.randrange(wires) for place in range(source.choice((0, 1, 2, 3, 40)))] if wires else []
            formula = byhand.a_formula(source, source.choice((1, 1, 3, 9)), ins)
            rest = source.choice((0, 0, 1, 2, 3, 10 ** 12))
            right += self.agree(ins, rows, (taken, source.random() < 0.5, formula, rest)) is None
        self.assertGreater(right, 40)

    def test_words_of_forty_wires(self):
        source = random.Random(705)
        for turn in range(20):
            rows = byhand.some_rows(source, 4, 43)
            taken = [source.randrange(47) for place in range(40)]
            for rest in (0, 1, 2 ** 40):
                self.agree(4, rows, (taken, turn % 2 == 1, byhand.a_formula(source, 9, 4), rest))

    def test_sixteen_inputs(self):
        ins, rows, claim = sum_claim(8, 8)
        form = [(2 ** k, -2 ** (k % 8)) for k in range(16)] + [(2 ** wire, 2 ** k) for k, wire in enumerate(claim[0])]
        self.assertEqual(judged(ins, rows, claim), ("right", byhand.steps(ins, rows, form)))
        # The last carry needs the two highest bits, or one of them and a carry below.
        self.assertEqual(rows[-1][0], "or")
        self.assertEqual(judged(ins, rows[:-1] + [("and",) + rows[-1][1:]], claim), ("wrong", 2 ** 8 + 2 ** 8 - 1))
        self.assertEqual(judged(ins, rows, claim[:3] + (2 ** 60,))[0], "right")
        low = (claim[0][:-1], False, claim[2], 256)
        self.assertEqual(judged(ins, rows, low)[0], "right")
        self.assertEqual(judged(ins, rows, low[:3] + (512,)), ("wrong", 2 ** 8 + 2 ** 8 - 1))

    def test_wrong_claims_whose_steps_would_be_very_long(self):
        self.assertEqual(judged(16, LONG, ([46], False, word([0]), 0)), ("wrong", 1))
        both = ("times", word([11]), word([3]))
        self.assertEqual(judged(16, LONG, ([46], False, both, 0)), ("wrong", 2 ** 11 + 2 ** 3))
        self.assertEqual(judged(16, LONG, ([46], True, number(6), 4)), ("wrong", 0))

    def test_all_claims_as_if_their_steps_were_very_long(self):
        with mock.patch("onceform.claims.VERY_MANY", 0):
            for ins, rows, claim in RIGHT[:9]:
                self.agree(ins, rows, claim)
                for changed in other_claims(claim):
                    self.agree(ins, rows, changed)
                for changed in other_rows(rows[-5:]):
                    self.agree(ins, rows[:-5] + changed, claim)

    def test_right_claims_whose_steps_are_very_long(self):
        ins = 15
        rows = [("fix", 1), ("xor", 0, 1)] + [("xor", k, ins + k - 1) for k in range(2, ins)]
        claim = ([ins + len(rows) - 1], False, number(0), 1)
        told, steps = judged(ins, rows, claim)
        self.assertEqual(told, "right")
        self.assertEqual(len(steps), len(rows) + 1)
        self.assertEqual(steps[0], [(2 ** (ins + len(rows) - 1), 1)])
        odd = [(members, (-2) ** (bin(members).count("1") - 1)) for members in range(1, 2 ** ins)]
        self.assertEqual(steps[-1], odd)
        self.assertTrue(walks(ins, rows, claim, steps))
        self.assertFalse(walks(ins, rows, claim[:3] + (0,), steps))


class Walks(unittest.TestCase):
    def test_steps_of_claims_that_hold(self):
        for ins, rows, claim in RIGHT:
            self.assertIs(walks(ins, rows, claim, byhand.steps(ins, rows, byhand.claim_form(ins, claim))), True)

    def test_one_tuple_changed(self):
        for ins, rows, claim in RIGHT[:4] + RIGHT[6:8] + RIGHT[-6:]:
            steps = byhand.steps(ins, rows, byhand.claim_form(ins, claim))
            for place, step in enumerate(steps):
                for entry, (members, its) in enumerate(step):
                    for others in ([], [(members, its + 1)], [(members, -its)], [(members + 1, its)], step[entry:] * 2):
                        changed = copy.deepcopy(steps)
                        changed[place] = step[:entry] + others + step[entry + 1:]
                        self.assertIs(walks(ins, rows, claim, changed), False)

    def test_one_tuple_put_to_a_step(self):
        for ins, rows, claim in RIGHT:
            steps = byhand.steps(ins, rows, byhand.claim_form(ins, claim))
            for place, step in enumerate(steps):
                for more in ((0, 0), (2 ** 70, 1), (2 ** 70, 0), (0, claim[3]), (-1, 1)):
                    changed = copy.deepcopy(steps)
                    changed[place] = step + [more]
                    self.assertIs(walks(ins, rows, claim, changed), False)

    def test_lists_too_short_or_too_long(self):
        for ins, rows, claim in RIGHT:
            steps = byhand.steps(ins, rows, byhand.claim_form(ins, claim))
            first, last = steps[:1], steps[-1:]
            for changed in ([], steps[:-1], steps[1:], steps + [[]], steps + last, first + steps, [[]] + steps):
                self.assertIs(walks(ins, rows, claim, changed), False)

    def test_steps_in_another_order(self):
        ins, rows, claim = sum_claim(2, 2)
        steps = byhand.steps(ins, rows, byhand.claim_form(ins, claim))
        self.assertFalse(walks(ins, rows, claim, steps[::-1]))
        for place in range(len(steps)):
            if len(steps[place]) > 1:
                changed = copy.deepcopy(steps)
                changed[place].reverse()
                self.assertFalse(walks(ins, rows, claim, changed))

    def test_steps_of_claims_that_do_not_hold(self):
        for ins, rows, claim in RIGHT[:12]:
            for changed in other_rows(rows):
                steps = byhand.steps(ins, changed, byhand.claim_form(ins, claim))
                holds = byhand.first_wrong(ins, changed, claim) is None
                self.assertIs(walks(ins, changed, claim, steps), holds)
                self.assertIs(walks(ins, rows, claim, steps), steps == byhand.steps(ins, rows, steps[0]))
            for other in other_claims(claim):
                steps = byhand.steps(ins, rows, byhand.claim_form(ins, other))
                self.assertIs(walks(ins, rows, other, steps), byhand.first_wrong(ins, rows, other) is None)

    def test_steps_that_end_well_but_are_made_up(self):
        ins, rows, claim = sum_claim(2, 2)
        rows = rows[:-1] + [("and",) + rows[-1][1:]]
        steps = byhand.steps(ins, rows, byhand.claim_form(ins, claim))
        self.assertNotEqual(steps[-1], [])
        self.assertFalse(walks(ins, rows, claim, steps[:-1] + [[]]))
        self.assertFalse(walks(ins, rows, claim, [[]] * len(steps)))

    def test_short_lists_for_a_claim_whose_steps_would_be_very_long(self):
        claim = ([46], False, number(0), 0)
        for steps in ([], [[(2 ** 46, 1)]], [[(2 ** 46, 1)]] + [[]] * 31, [[(2 ** 46, 1)]] * 32):
            self.assertIs(walks(16, LONG, claim, steps), False)

    def test_the_rest_of_the_last_step(self):
        rows = [("and", 0, 1)]
        steps = [[(0, -6), (4, 1)], [(0, -6), (3, 1)]]
        self.assertEqual([walks(2, rows, ([2], False, number(6), rest), steps) for rest in (0, 1, 2, 6)],
                         [False, True, False, False])
        steps = [[(0, -6)], [(0, -6)]]
        self.assertEqual([walks(2, rows, ([], False, number(6), rest), steps) for rest in (0, 1, 2, 3, 4, 6, 12)],
                         [False, True, True, True, False, True, False])


if __name__ == "__main__":
    unittest.main()
