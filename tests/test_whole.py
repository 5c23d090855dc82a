"""The whole program: a desk against the functions, and words of wires found by few asks."""

import random
import unittest

import byhand
from onceform.asks import next_step
from onceform.changes import fixed, put_in, unlike, unlike_by
from onceform.claims import form_of_formula, judged
from onceform.desk import Desk
from onceform.forms import less, made, plus, scaled, times, unknowns, worth
from onceform.gates import bits_for, read_back, wire_forms
from onceform.least import least, shows
from onceform.statements import form_of_statement, read, shown
from onceform.tables import form_of, table_of
from onceform.text import form_read, form_shown
from onceform.trees import all_ways, form_of_tree, tree_of, ways


class DeskAndFunctions(unittest.TestCase):
    def kept(self, desk, name):
        return form_read(desk.say(f"show {name}"))

    def desk_of(self, *forms):
        desk = Desk()
        for name, form in zip("xyz", forms):
            self.assertEqual(desk.say(f"{name} = {form_shown(form)}"), "ok")
        return desk

    def assert_makes(self, desk, text, form):
        self.assertEqual(desk.say(f"new = {text}"), "ok")
        self.assertEqual(self.kept(desk, "new"), form)

    def test_forms_made(self):
        source = random.Random(2501)
        forms = byhand.some_forms(16, 30, 2502) + byhand.some_forms(4, 30, 2503)
        for turn in range(60):
            one, other = source.choice(forms), source.choice(forms)
            desk = self.desk_of(one, other)
            k = source.randrange(16)
            self.assert_makes(desk, "plus x y", plus(one, other))
            self.assert_makes(desk, "less x y", less(one, other))
            self.assert_makes(desk, "times x y", times(one, other))
            for its in (0, 1):
                self.assert_makes(desk, f"fixed x {byhand.LETTERS[k]} {its}", fixed(one, k, its))

    def test_forms_put_in(self):
        source = random.Random(2504)
        for turn, other in enumerate(byhand.some_yes_no(4, 40, 2505)):
            one = source.choice(byhand.some_forms(5, 20, 2506 + turn))
            k = source.randrange(6)
            self.assert_makes(self.desk_of(one, other), f"put x {byhand.LETTERS[k]} y", put_in(one, k, other))

    def test_statements(self):
        desk = Desk()
        for statement in byhand.some_statements(60, 2507):
            self.assertEqual(desk.say(f"x := {shown(statement)}"), "ok")
            form = form_of_statement(statement)
            self.assertEqual(self.kept(desk, "x"), form)
            self.assertEqual(form_of_statement(read(shown(statement))), form)

    def test_answers(self):
        source = random.Random(2508)
        forms = byhand.some_forms(10, 20, 2509) + byhand.some_forms(3, 20, 2510)
        for turn in range(50):
            one, other = source.choice(forms), source.choice(forms)
            desk = self.desk_of(one, other)
            given, rest = source.randrange(2 ** 16), source.randrange(1, 9)
            self.assertEqual(desk.say(f"worth x {given}"), str(worth(one, given)))
            self.assertEqual(desk.say("alike x y"), self.place(unlike(one, other)))
            self.assertEqual(desk.say(f"rest x y {rest}"), self.place(unlike_by(one, other, rest)))
            number, place, paper = least(one, 10)
            self.assertEqual(desk.say("least x"), f"{number} {place}")
            self.assertTrue(shows(one, number, paper))
            letters = "".join(byhand.LETTERS[k] for k in range(16) if unknowns(one) >> k & 1)
            self.assertEqual(desk.say("unknowns x"), letters or "none")

    def place(self, given):
        return "yes" if given is None else str(given)

    def test_ways(self):
        for form in byhand.some_yes_no(5, 40, 2511):
            many = unknowns(form).bit_length()
            told = self.desk_of(form).say("ways x")
            self.assertEqual(told, str(ways(form, many)))
            self.assertEqual(told, str(len(all_ways(form, many))))
            self.assertEqual(form_of_tree(tree_of(form)), form)
            self.assertEqual(form_of(table_of(form, many)), form)


class WordsByFewAsks(unittest.TestCase):
    def found(self, asked, many, terms):
        """The form that few asks find, each worth being told by the function."""
        told = {}
        step = next_step(told, many, terms)
        while step[0] == "ask":
            told[step[1]] = asked(step[1])
            step = next_step(told, many, terms)
        self.assertLessEqual(len(told), byhand.most_asks(many, terms))
        return step[1]

    def word(self, ins, rows, outs, given):
        bits = bits_for(ins, rows, given)
        return sum(2 ** place * bits[wire] for place, wire in enumerate(outs))

    def assert_word(self, ins, rows, outs, form):
        """The word's form is found from its worths, once few tuples are enough for it."""
        self.assertLessEqual(len(form), 16)
        for terms in {len(form), 16}:
            found = self.found(lambda given: self.word(ins, rows, outs, given), ins, terms)
            self.assertEqual(found, form)

    def test_words_that_add_and_multiply(self):
        cases = [(byhand.adder(size, size), size, "plus") for size in (1, 2, 3, 5)]
        cases += [(byhand.multiplier(size, size), size, "times") for size in (1, 2, 3, 4)]
        for (ins, rows, outs), first, word in cases:
            formula = (word, ("word", list(range(first)), False), ("word", list(range(first, ins)), False))
            self.assert_word(ins, rows, outs, form_of_formula(formula))
            self.assertEqual(judged(ins, rows, (outs, False, formula, 0))[0], "right")

    def test_words_of_some_rows(self):
        source = random.Random(2512)
        tried = 0
        while tried < 40:
            ins = source.randrange(1, 9)
            rows = byhand.some_rows(source, ins, source.randrange(1, 12))
            outs = [source.randrange(ins + len(rows)) for place in range(source.randrange(1, 4))]
            forms = wire_forms(ins, rows)
            form = []
            for place, wire in enumerate(outs):
                form = plus(form, scaled(forms[wire], 2 ** place))
            if len(form) > 16:
                continue
            tried += 1
            self.assert_word(ins, rows, outs, form)
            wires = made([(2 ** wire, 2 ** place) for place, wire in enumerate(outs)])
            self.assertEqual(read_back(ins, rows, wires)[-1], form)

    def test_single_wires(self):
        source = random.Random(2513)
        for turn in range(12):
            rows = byhand.some_rows(source, 5, 8)
            for wire, form in enumerate(wire_forms(5, rows)):
                found = self.found(lambda given: bits_for(5, rows, given)[wire], 5, max(16, len(form)))
                self.assertEqual(found, form)

    def test_a_found_form_on_a_desk(self):
        ins, rows, outs = byhand.adder(2, 2)
        found = self.found(lambda given: self.word(ins, rows, outs, given), ins, 6)
        desk = Desk()
        self.assertEqual(desk.say(f"sum = {form_shown(found)}"), "ok")
        self.assertEqual(desk.say("show sum"), "a + 2b + c + 2d")
        self.assertEqual(desk.say("least sum"), "0 0")
        self.assertEqual(desk.say("worth sum 15"), "6")


if __name__ == "__main__":
    unittest.main()
