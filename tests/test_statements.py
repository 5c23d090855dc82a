"""Points 11 and 12: statements, their forms, and how they are written and read."""

import itertools
import random
import unittest

import byhand
from onceform.errors import NoStatement
from onceform.statements import form_of_statement, read, shown

A, B, C = ("bit", 0), ("bit", 1), ("bit", 2)
NO, YES = ("fix", 0), ("fix", 1)


class FormOfStatement(unittest.TestCase):
    def test_each_word(self):
        wanted = (
            (A, [(1, 1)]), (("bit", 15), [(2 ** 15, 1)]), (NO, []), (YES, [(0, 1)]),
            (("not", A), [(0, 1), (1, -1)]), (("not", NO), [(0, 1)]), (("not", YES), []),
            (("and", A, B), [(3, 1)]), (("or", A, B), [(1, 1), (2, 1), (3, -1)]),
            (("xor", A, B), [(1, 1), (2, 1), (3, -2)]),
            (("and", A, A), [(1, 1)]), (("or", A, A), [(1, 1)]), (("xor", A, A), []),
            (("and", A, YES), [(1, 1)]), (("or", A, NO), [(1, 1)]), (("xor", A, YES), [(0, 1), (1, -1)]),
            (("and", A, ("not", A)), []), (("or", A, ("not", A)), [(0, 1)]),
        )
        for statement, form in wanted:
            self.assertEqual(form_of_statement(statement), form, statement)

    def assert_as_said(self, statement):
        form = form_of_statement(statement)
        self.assertIsNone(byhand.fault(form), form)
        bits = sorted(byhand.statement_bits(statement))
        numbers = dict(form)
        self.assertTrue(all(members & sum(2 ** k for k in bits) == members for members in numbers))
        for choice in range(2 ** len(bits)):
            given = sum(2 ** k * byhand.bit(choice, place) for place, k in enumerate(bits))
            self.assertEqual(byhand.worth(form, given), byhand.statement_bit(statement, given), (statement, given))

    def test_small_statements_at_all_choices(self):
        leaves = [A, B, NO, YES]
        small = leaves + [("not", leaf) for leaf in leaves]
        small += [(word, one, other) for word in ("and", "or", "xor") for one in leaves for other in leaves]
        for statement in small:
            self.assert_as_said(statement)
        for word, one, other in itertools.product(("and", "or", "xor"), small[::3], small[::2]):
            self.assert_as_said((word, one, other))

    def test_statements_of_few_bits_at_all_choices(self):
        source = random.Random(201)
        for turn in range(80):
            bits = source.sample(range(16), source.randrange(1, 5))
            self.assert_as_said(byhand.a_statement(source, source.randrange(1, 41), bits))

    def test_eight_bits_and_forty_parts_at_all_choices(self):
        source = random.Random(202)
        for turn in range(4):
            self.assert_as_said(byhand.a_statement(source, 40, source.sample(range(16), 8)))

    def test_all_of_eight_bits_twice(self):
        chain = ("bit", 8)
        other = ("bit", 15)
        for k in range(9, 16):
            chain = ("xor", chain, ("bit", k))
            other = ("or", ("bit", 23 - k), other)
        self.assertEqual(byhand.parts(("and", chain, other)), 31)
        self.assert_as_said(("and", chain, other))
        self.assert_as_said(("or", chain, ("xor", other, NO)))
        self.assert_as_said(("xor", ("not", chain), other))

    def test_forty_deep_and_more(self):
        nots = chain = A
        for turn in range(1, 61):
            nots = ("not", nots)
            chain = ("xor", YES, chain)
            wanted = [(0, 1), (1, -1)] if turn % 2 == 1 else [(1, 1)]
            self.assertEqual(form_of_statement(nots), wanted)
            self.assertEqual(form_of_statement(chain), wanted)

    def test_far_deeper_on_either_side(self):
        nots, left, right = A, A, A
        for turn in range(3000):
            nots = ("not", nots)
            left = ("and", left, (A, B)[turn % 2])
            right = ("or", (A, B)[turn % 2], right)
        self.assertEqual(form_of_statement(nots), [(1, 1)])
        self.assertEqual(form_of_statement(left), [(3, 1)])
        self.assertEqual(form_of_statement(right), [(1, 1), (2, 1), (3, -1)])

    def test_more_bits_and_parts_are_not_refused(self):
        statement = ("bit", 0)
        for k in range(1, 10):
            statement = ("and", statement, ("bit", k))
        self.assertEqual(form_of_statement(statement), [(1023, 1)])
        for turn in range(30):
            statement = ("or", statement, NO)
        self.assertEqual(form_of_statement(statement), [(1023, 1)])

    def test_sixteen_bits_in_very_many_tuples(self):
        statement = ("bit", 0)
        for k in range(1, 16):
            statement = ("xor", statement, ("bit", k))
        wanted = {members: (-2) ** (bin(members).count("1") - 1) for members in range(1, 2 ** 16)}
        self.assertEqual(dict(form_of_statement(statement)), wanted)
        self.assertEqual(form_of_statement(("xor", statement, statement)), [])
        self.assertEqual(dict(form_of_statement(("and", statement, statement))), wanted)
        self.assertEqual(form_of_statement(("or", statement, ("not", statement))), [(0, 1)])


class Shown(unittest.TestCase):
    def test_letters_figures_and_words(self):
        self.assertEqual([shown(("bit", k)) for k in range(16)], list("abcdefghijklmnop"))
        self.assertEqual(shown(NO), "0")
        self.assertEqual(shown(YES), "1")
        self.assertEqual(shown(("not", A)), "not a")
        self.assertEqual(shown(("and", A, B)), "a and b")
        self.assertEqual(shown(("or", NO, ("bit", 13))), "0 or n")
        self.assertEqual(shown(("xor", ("bit", 14), YES)), "o xor 1")

    def test_brackets_round_and_or_xor_alone(self):
        self.assertEqual(shown(("not", ("not", NO))), "not not 0")
        self.assertEqual(shown(("and", ("not", A), ("not", ("not", B)))), "not a and not not b")
        self.assertEqual(shown(("not", ("or", A, B))), "not (a or b)")
        self.assertEqual(shown(("and", ("and", A, B), C)), "(a and b) and c")
        self.assertEqual(shown(("and", A, ("and", B, C))), "a and (b and c)")
        self.assertEqual(shown(("xor", ("or", A, B), ("not", ("xor", B, ("not", C))))),
                         "(a or b) xor not (b xor not c)")

    def test_as_by_hand(self):
        for statement in byhand.some_statements(300, 203):
            self.assertEqual(shown(statement), byhand.statement_text(statement))


class Read(unittest.TestCase):
    def assert_refused(self, text):
        with self.assertRaises(NoStatement, msg=repr(text)):
            read(text)

    def assert_read_as_by_hand(self, text):
        wanted = byhand.read(text)
        if wanted is None:
            self.assert_refused(text)
        else:
            self.assertEqual(read(text), wanted, text)

    def test_what_is_written(self):
        for k, letter in enumerate("abcdefghijklmnop"):
            self.assertEqual(read(letter), ("bit", k))
        self.assertEqual(read("0"), NO)
        self.assertEqual(read("1"), YES)
        self.assertEqual(read("not not a"), ("not", ("not", A)))
        self.assertEqual(read("not a and b"), ("and", ("not", A), B))
        self.assertEqual(read("a or not b"), ("or", A, ("not", B)))
        self.assertEqual(read("not (a xor b)"), ("not", ("xor", A, B)))
        self.assertEqual(read("a and (b or c)"), ("and", A, ("or", B, C)))
        self.assertEqual(read("n or o"), ("or", ("bit", 13), ("bit", 14)))

    def test_there_and_back(self):
        for statement in byhand.some_statements(300, 204):
            self.assertEqual(read(shown(statement)), statement)

    def test_more_brackets(self):
        self.assertEqual(read("(a)"), A)
        self.assertEqual(read("((1))"), YES)
        self.assertEqual(read("(not a) and (b)"), ("and", ("not", A), B))
        self.assertEqual(read("not (a)"), ("not", A))
        self.assertEqual(read("not ((not (a and b)))"), ("not", ("not", ("and", A, B))))
        self.assertEqual(read("((a and b) or ((c)))"), ("or", ("and", A, B), C))
        source = random.Random(205)
        for statement in byhand.some_statements(200, 206, 20):
            self.assertEqual(read(byhand.statement_text(statement, source)), statement)

    def test_two_joining_words_without_brackets(self):
        for one, other in itertools.product(("and", "or", "xor"), repeat=2):
            self.assert_refused(f"a {one} b {other} c")
            self.assert_refused(f"(a {one} b {other} c)")
            self.assert_refused(f"not a {one} b {other} c")
            self.assert_refused(f"a {one} not b {other} c")
            self.assert_refused(f"(a) {one} (b) {other} (c)")
            self.assert_refused(f"a {one} (b or c) {other} d")
            self.assert_refused(f"(a {one} b) or c {other} d")
            self.assert_refused(f"not (a {one} b {other} c) and d")
            self.assertEqual(read(f"(a {one} b) {other} c"), (other, (one, A, B), C))

    def test_blanks(self):
        for text in (" a", "a ", " ", "  ", "a  and b", "a and  b", "a and b ", "( a)", "(a )", "not  a", "nota",
                     "not(a)", "not a ", "(a)and b", "a and(b)", "aand b", "a andb", "aandb", "a or\nb", "not (a )",
                     "(not a) ", "a and\tb", "a and not(b)", "( not a)", "not", "not ", "a and ", " and b",
                     "a and not ", "0 or"):
            self.assert_refused(text)

    def test_nothing(self):
        for text in ("", "()", "(())", "not ()", "a and ()", "() and a", "()a", "a()"):
            self.assert_refused(text)

    def test_brackets_that_do_not_fit(self):
        for text in ("(", ")", "(a", "a)", ")a(", "((a)", "(a))", "(a and b", "a and b)", "a and (b", "(a) and b)",
                     "(a and (b) or c", "a (and b)", "(a and) b", "(a)(b)", "(a)b", "a(b)", "not (a", "not a)",
                     "(not) a"):
            self.assert_refused(text)

    def test_other_signs_and_words(self):
        for text in ("q", "z", "A", "P", "2", "9", "10", "00", "ab", "a0", "and", "or", "xor", "nor", "a & b",
                     "a nand b", "a AND b", "NOT a", "a and and b", "a b", "a not b", "a and or b", "-a", "~a", "a,b",
                     "[a]", "{a}", "a!", "a and b;", "'a'", "a and q", "a not and b", "true", "x", "a == b", "a is b",
                     "fix 1", "`", "@"):
            self.assert_refused(text)
        for code in range(32, 127):
            self.assert_read_as_by_hand(f"{code:c}")
            self.assert_read_as_by_hand(f"not {code:c}")
            self.assert_read_as_by_hand(f"a{code:c}")
            self.assert_read_as_by_hand(f"a and {code:c}")
            self.assert_read_as_by_hand(f"a and b{code:c}")
            self.assert_read_as_by_hand(f"a{code:c}and b")

    def test_all_texts_of_few_pieces(self):
        pieces = ("a", "n", "1", " ", "not", "not ", " and ", "or", " xor ", "(", ")")
        for length in range(1, 5):
            for chosen in itertools.product(pieces, repeat=length):
                self.assert_read_as_by_hand("".join(chosen))

    def test_texts_with_a_sign_too_many_or_too_few_or_another(self):
        source = random.Random(207)
        for statement in byhand.some_statements(150, 208, 15):
            text = byhand.statement_text(statement, source)
            for turn in range(8):
                place = source.randrange(len(text))
                sign = source.choice("a1 ()not and xor q")
                self.assert_read_as_by_hand(text[:place] + text[place + 1:])
                self.assert_read_as_by_hand(text[:place] + sign + text[place:])
                self.assert_read_as_by_hand(text[:place] + sign + text[place + 1:])

    def test_sixty_deep(self):
        nots = A
        for turn in range(60):
            nots = ("not", nots)
        chain = A
        for turn in range(60):
            chain = ("and", chain, B)
        self.assertEqual(read("(" * 60 + "a" + ")" * 60), A)
        self.assertEqual(read("not " * 60 + "a"), nots)
        self.assertEqual(read("not (" * 60 + "a" + ")" * 60), nots)
        self.assertEqual(read("(not " * 60 + "a" + ")" * 60), nots)
        self.assertEqual(read("(" * 60 + "a" + " and b)" * 60), chain)
        self.assertEqual(shown(nots), "not " * 60 + "a")
        self.assertEqual(read(shown(chain)), chain)

    def test_sixty_deep_and_wrong(self):
        for inner in ("", "q", "a and b or c", "a ", " a", "()", "not", "a b"):
            self.assert_refused("(" * 60 + inner + ")" * 60)
            self.assert_refused("not " * 60 + inner)
            self.assert_refused("not (" * 60 + inner + ")" * 60)
        self.assert_refused("(" * 60 + "a" + ")" * 59)
        self.assert_refused("(" * 59 + "a" + ")" * 60)
        self.assert_refused("not(" * 60 + "a" + ")" * 60)
        self.assert_refused("(" * 60 + "a" + " and b)" * 59)
        self.assert_refused("(" * 60 + "a" + " and b)" * 60 + " or c or d")

    def test_no_depth_brings_another_error(self):
        for text in ("(" * 1000, ")" * 1000, "not " * 250, "not (" * 200, "(" * 500 + ")" * 500, "a and (" * 140,
                     "(" * 500 + "a" + ")" * 498, "a and " * 160 + "a", "a" * 1000, " " * 1000):
            self.assert_refused(text)
        self.assertEqual(read("(" * 499 + "a" + ")" * 499), A)

    def test_more_than_eight_bits_and_forty_parts_are_read(self):
        text = "a"
        wanted = A
        for k, letter in enumerate("bcdefghijklmnop", start=1):
            text = f"({text}) or not not {letter}"
            wanted = ("or", wanted, ("not", ("not", ("bit", k))))
        self.assertEqual(byhand.parts(wanted), 61)
        self.assertEqual(read(text), wanted)


if __name__ == "__main__":
    unittest.main()
