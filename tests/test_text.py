"""Point 23: forms as texts, written and read."""

import itertools
import random
import unittest

import byhand
from onceform.errors import NoForm
from onceform.text import form_read, form_shown

ALL = 2 ** 16 - 1
# Each form with its one text.
PAIRS = (
    ([], "0"), ([(0, 1)], "1"), ([(0, -1)], "-1"), ([(0, 10)], "10"), ([(0, -207)], "-207"),
    ([(1, 1)], "a"), ([(1, -1)], "-a"), ([(1, 2)], "2a"), ([(1, -2)], "-2a"), ([(1, 11)], "11a"), ([(1, -10)], "-10a"),
    ([(2 ** 15, 1)], "p"), ([(2 ** 15, -1)], "-p"), ([(ALL, 1)], "abcdefghijklmnop"),
    ([(ALL, -100)], "-100abcdefghijklmnop"), ([(0, 3), (3, -2), (4, 1)], "3 - 2ab + c"),
    ([(0, -3), (3, 2), (4, -1)], "-3 + 2ab - c"), ([(0, 1), (1, 1)], "1 + a"), ([(0, 1), (1, -1)], "1 - a"),
    ([(0, -1), (1, -1)], "-1 - a"), ([(1, -1), (2, -1)], "-a - b"), ([(1, 1), (2, 1), (3, -2)], "a + b - 2ab"),
    ([(5, 1), (6, -1), (7, 12)], "ac - bc + 12abc"), ([(0, byhand.BIG)], str(byhand.BIG)),
    ([(0, 10 ** 59), (9, 1 - 10 ** 60)], "1" + "0" * 59 + " - " + "9" * 60 + "ad"),
)
# Texts that no form is written as.
WRONG = (
    "", " ", "  ", "-", "+", "--", "- ", " -", "-0", "+0", "00", "0 ", " 0", "01", "-01", "0a", "-0a", "00a", "01a",
    "1a", "-1a", "1ab", "2 - 1a", "a + 1b", "+1", "+a", "+ a", "- a", "- 1", "--a", "-+a", "+-a", "-a-", "a-", "a +",
    "a + ", "a -", "a - ", " + a", " - a", "a + b ", " a + b", "a  + b", "a +  b", "a+ b", "a +b", "a+b", "a-b",
    "a b", "ab c", "2 a", "- 2a", "2 3", "a + + b", "a - - b", "a + -b", "a - -b", "a + +b", "a + - b", "a +- b",
    "0 + a", "0 - a", "a + 0", "a - 0", "a + 0b", "0 + 0", "1 + 0", "a + 02b", "a + 2b + ",
    "ba", "aa", "aba", "cb", "2ba", "1 + aa", "a2", "a2b", "2a3", "ab2", "b + a", "ab + b", "c + ab", "a + 1", "a + 2",
    "a + a", "a - a", "1 + 1", "1 - 1", "2 + 3", "ab + ab", "1 + a + a", "a + 2a", "q", "z", "aq", "A", "aB", "2A",
    "a*b", "2*a", "a & b", "(a)", "1.5", "1,000", "1_000", "1e3", "a + (b)", "a = b", "a or b", "not a", "none",
    "a + b\n", "\na", "\t1", "a\t+ b", "a +\tb", "a + b - ", "a ~ b", "~", "a / b", "1 + a\n", "plus", "a + b + ",
)


class Shown(unittest.TestCase):
    def test_each_text(self):
        for form, text in PAIRS:
            told = form_shown(form)
            self.assertIs(type(told), str)
            self.assertEqual(told, text)

    def test_each_single_letter(self):
        for k in range(16):
            self.assertEqual(form_shown([(2 ** k, 1)]), "abcdefghijklmnop"[k])

    def test_some_forms(self):
        for form in byhand.some_forms(16, 200, 2301) + byhand.some_forms(4, 200, 2302):
            self.assertEqual(form_shown(form), byhand.form_text(form))


class Read(unittest.TestCase):
    def assert_refused(self, text):
        with self.assertRaises(NoForm, msg=text) as taken:
            form_read(text)
        self.assertIs(type(taken.exception), NoForm, text)

    def assert_as_by_hand(self, text):
        wanted = byhand.text_form(text)
        if wanted is None:
            self.assert_refused(text)
        else:
            self.assertEqual(form_read(text), wanted, text)

    def test_each_text(self):
        for form, text in PAIRS:
            told = form_read(text)
            self.assertIsNone(byhand.fault(told), text)
            self.assertEqual(told, form)

    def test_wrong_texts(self):
        for text in WRONG:
            self.assert_refused(text)

    def test_other_signs(self):
        for code in range(ord(" "), ord("~") + 1):
            sign = chr(code)
            if sign not in "abcdefghijklmnop0123456789%":
                for text in (sign, f"a{sign}", f"{sign}a + b", f"a {sign}b", f"2{sign}a", f"a + {sign}"):
                    self.assert_as_by_hand(text)
            if sign not in "+-":
                self.assert_refused(f"a {sign} b")

    def test_figures_and_letters_of_other_scripts(self):
        for text in ("\u0663", "\u00b2", "2\u0663", "\u00aa", "a\u00a0+ b", "\uff11", "\u0430", "1 \u2212 a"):
            self.assert_refused(text)

    def test_all_short_texts(self):
        for length in range(6):
            for signs in itertools.product(" +-012ab", repeat=length):
                self.assert_as_by_hand("".join(signs))

    def test_some_texts_with_one_sign_changed(self):
        source = random.Random(2303)
        for form in byhand.some_forms(16, 150, 2304) + byhand.some_forms(3, 150, 2305):
            text = byhand.form_text(form)
            for turn in range(12):
                place = source.randrange(len(text) + 1)
                sign = source.choice(" +-0123abcop")
                for changed in (text[:place] + text[place + 1:], text[:place] + sign + text[place:],
                                text[:place] + sign + text[place + 1:]):
                    self.assert_as_by_hand(changed)

    def test_tuples_in_another_order(self):
        source = random.Random(2306)
        for turn in range(100):
            sets = source.sample(range(2 ** 6), 3)
            text = " + ".join(byhand.form_text([(members, 2)]) for members in sets)
            self.assert_as_by_hand(text)

    def test_all_sets_of_few_letters(self):
        # The SETs rise as numbers: ab comes behind b and ahead of c.
        text = "1 + a + b + ab + c + ac + bc + abc"
        self.assertEqual(form_read(text), [(members, 1) for members in range(8)])
        self.assert_refused("1 + a + ab + b")
        self.assert_refused("1 + a + b + c + ab")

    def test_many_figures(self):
        for figures in ("9" * 60, "1" + "0" * 59, "9" * 1000, "1" + "0" * 3999, "7" * 4500):
            # Python's own reading is not asked for so many figures at once.
            wanted = sum(int(figure) * 10 ** place for place, figure in enumerate(reversed(figures)))
            self.assertTrue(form_read(figures) == [(0, wanted)])
            self.assertTrue(form_read(f"-{figures}ap") == [(2 ** 15 + 1, -wanted)])
            self.assert_refused("0" + figures)
            self.assert_refused(figures + " ")
            self.assert_refused(figures + "q")


class Back(unittest.TestCase):
    def test_written_and_read_back(self):
        for form in byhand.some_forms(16, 300, 2307) + byhand.some_forms(2, 100, 2308):
            self.assertEqual(form_read(form_shown(form)), form)

    def test_read_and_written_back(self):
        for form in byhand.some_forms(5, 200, 2309):
            text = byhand.form_text(form)
            self.assertEqual(form_shown(form_read(text)), text)

    def test_three_hundred_tuples(self):
        source = random.Random(2310)
        form = [(members, source.choice((1, -1, 4))) for members in sorted(source.sample(range(2 ** 16), 300))]
        text = form_shown(form)
        self.assertEqual(text, byhand.form_text(form))
        self.assertEqual(form_read(text), form)


if __name__ == "__main__":
    unittest.main()
