"""Point 24: a desk that keeps forms by names and answers lines."""

import random
import unittest

import byhand
from onceform import errors
from onceform.desk import Desk
from onceform.errors import NoForm, NoLine, NoName, NoStatement, NoYesNo, TooMany

GREAT = "9" * 1000
# Forms for the lines below: a yes-no form, others, and names that are words of lines.
KEPT = ("x = 3 - 2ab + c", "y = a + b - 2ab", "n = 0", "one = 1", "neg = -ab", "p = p", "k = k", "plus = 2 + a",
        "show = 5c", "put = a - ac", "abcdefgh = 7")


def full_desk():
    desk = Desk()
    for line in KEPT:
        desk.say(line)
    return desk


def heard(desk, line):
    """The answer, or the name of the refusal's class."""
    try:
        return desk.say(line)
    except errors.FormError as refusal:
        return type(refusal).__name__


def sum_of(count, beyond=0):
    """A text of just so many tuples."""
    return byhand.form_text([(members, 1) for members in range(beyond, beyond + count)])


class Case(unittest.TestCase):
    def assert_says(self, desk, *pairs):
        for line, wanted in pairs:
            told = desk.say(line)
            self.assertIs(type(told), str, line)
            self.assertEqual(told, wanted, line[:80])

    def assert_refused(self, refusal, desk, *lines):
        """Each line is refused with the very class, and nothing that the desk keeps changes."""
        for line in lines:
            ahead = self.kept(desk)
            with self.assertRaises(errors.FormError, msg=line[:80]) as taken:
                desk.say(line)
            self.assertIs(type(taken.exception), refusal, line[:80])
            self.assertEqual(self.kept(desk), ahead, line[:80])

    def kept(self, desk):
        names = [line.split(" ")[0] for line in KEPT] + ["new", "x", "y", "great", "many", "other"]
        return [heard(desk, f"show {name}") for name in names]


class Answers(Case):
    def test_texts_and_show(self):
        desk = Desk()
        for text in ("0", "1", "-1", "a", "-a", "3 - 2ab + c", "-3 + 2ab - c", "p", "abcdefghijklmnop", GREAT,
                     f"-{GREAT}a + {GREAT}b"):
            self.assert_says(desk, (f"x = {text}", "ok"), ("show x", text))

    def test_statements(self):
        desk = Desk()
        for text, wanted in (("0", "0"), ("1", "1"), ("a", "a"), ("p", "p"), ("not a", "1 - a"), ("a and b", "ab"),
                             ("a or b", "a + b - ab"), ("a xor b", "a + b - 2ab"), ("a and not a", "0"),
                             ("((a) or (1))", "1"), ("not (a and (b or c))", "1 - ab - ac + abc")):
            self.assert_says(desk, (f"x := {text}", "ok"), ("show x", wanted))

    def test_made_of_others(self):
        desk = full_desk()
        for text, wanted in (
                ("plus x y", "3 + a + b - 4ab + c"), ("less x y", "3 - a - b + c"), ("less y x", "-3 + a + b - c"),
                ("times x y", "3a + 3b - 6ab + ac + bc - 2abc"), ("plus x x", "6 - 4ab + 2c"), ("less x x", "0"),
                ("times y y", "a + b - 2ab"), ("times x n", "0"), ("plus n n", "0"), ("fixed x a 0", "3 + c"),
                ("fixed x a 1", "3 - 2b + c"), ("fixed x d 1", "3 - 2ab + c"), ("fixed p p 1", "1"),
                ("fixed p p 0", "0"), ("put x c y", "3 + a + b - 4ab"), ("put x a y", "3 - 2b + 2ab + c"),
                ("put x p y", "3 - 2ab + c"), ("put p p y", "a + b - 2ab"), ("put y a y", "a"),
                ("put x c n", "3 - 2ab"), ("put x c one", "4 - 2ab")):
            self.assert_says(desk, (f"z = {text}", "ok"), ("show z", wanted))

    def test_worth(self):
        self.assert_says(
            full_desk(), ("worth x 0", "3"), ("worth x 3", "1"), ("worth x 7", "2"), ("worth x 8", "3"),
            ("worth x 4", "4"), ("worth neg 3", "-1"), ("worth n 5", "0"), ("worth p 32768", "1"),
            ("worth p 32767", "0"), ("worth p 999999999999999999", str(10 ** 18 - 1 >> 15 & 1)),
            ("worth p 999999999999967231", str(999999999999967231 >> 15 & 1)))

    def test_alike_and_rest(self):
        self.assert_says(
            full_desk(), ("alike x x", "yes"), ("alike x y", "0"), ("alike y put", "2"), ("alike n neg", "3"),
            ("alike n p", "32768"), ("rest x x 1", "yes"), ("rest x y 1", "yes"), ("rest x y 2", "0"),
            ("rest x y 3", "1"), ("rest one neg 2", "0"), ("rest n neg 1", "yes"), ("rest n neg 2", "3"),
            ("rest n show 5", "yes"), ("rest n show 4", "4"), ("rest n abcdefgh 7", "yes"),
            ("rest n abcdefgh 999999999999999999", "0"), ("alike show n", "4"))

    def test_rests_of_worths_below_nought(self):
        desk = Desk()
        for line in ("x = -1", "y = 2", "z = -4a"):
            desk.say(line)
        self.assert_says(desk, ("rest x y 3", "yes"), ("rest x y 2", "0"), ("rest x z 3", "0"), ("alike x y", "0"))

    def test_least(self):
        self.assert_says(full_desk(), ("least x", "1 3"), ("least y", "0 0"), ("least n", "0 0"), ("least one", "1 0"),
                         ("least neg", "-1 3"), ("least put", "0 0"), ("least show", "0 0"))
        desk = Desk()
        desk.say("x = 1 - j")
        self.assert_says(desk, ("least x", "0 512"))

    def test_ways(self):
        self.assert_says(full_desk(), ("ways y", "2"), ("ways n", "0"), ("ways one", "1"), ("ways put", "2"))
        desk = Desk()
        for text, wanted in (("a", 1), ("b", 2), ("c", 4), ("j", 512), ("1 - j", 512), ("1 - a", 1), ("abcdefghij", 1)):
            desk.say(f"x = {text}")
            self.assert_says(desk, ("ways x", str(wanted)))

    def test_unknowns(self):
        desk = full_desk()
        desk.say("few = bd - abd + ap")
        self.assert_says(desk, ("unknowns x", "abc"), ("unknowns n", "none"), ("unknowns one", "none"),
                         ("unknowns p", "p"), ("unknowns few", "abdp"), ("unknowns show", "c"))

    def test_answers_of_many_figures(self):
        desk = Desk()
        desk.say(f"x = {GREAT} + {GREAT}a - {GREAT}b")
        whole = 2 * (10 ** 1000 - 1)
        self.assert_says(desk, ("worth x 1", str(whole)), ("least x", "0 2"), ("worth x 2", "0"))
        desk.say(f"y = -{GREAT} - {GREAT}a")
        self.assert_says(desk, ("least y", f"-{whole} 1"), ("alike x y", "0"), ("rest x y 2", "2"))

    def test_a_name_gets_another_form(self):
        desk = Desk()
        self.assert_says(desk, ("x = a", "ok"), ("y = plus x x", "ok"), ("x = times y y", "ok"), ("show x", "4a"),
                         ("show y", "2a"), ("x := not a", "ok"), ("x = put x a x", "ok"), ("show x", "a"),
                         ("x = 0", "ok"), ("show x", "0"), ("show y", "2a"))

    def test_names_that_are_words_of_lines(self):
        desk = Desk()
        words = ("show", "worth", "alike", "rest", "least", "ways", "unknowns", "plus", "less", "times", "fixed", "put",
                 "ok", "yes", "none", "not", "and", "or", "xor", "a", "p", "q", "z")
        for number, word in enumerate(words, start=2):
            self.assert_says(desk, (f"{word} = {number}a", "ok"), (f"show {word}", f"{number}a"),
                             (f"worth {word} 1", str(number)))
        self.assert_says(desk, ("plus = plus plus plus", "ok"), ("show plus", "18a"), ("less = less less plus", "ok"),
                         ("show less", "-8a"), ("put := b", "ok"), ("put = put times a put", "ok"), ("show put", "11b"))
        self.assert_says(desk, ("times = times times times", "ok"), ("show times", "121a"),
                         ("fixed = fixed fixed a 1", "ok"), ("show fixed", "12"), ("alike alike alike", "yes"),
                         ("rest rest rest 5", "yes"), ("least least", "0 0"), ("unknowns unknowns", "a"),
                         ("show = less show show", "ok"), ("show show", "0"), ("ways show", "0"))

    def test_a_text_is_no_name(self):
        desk = Desk()
        self.assert_says(desk, ("a = 5", "ok"), ("x = a", "ok"), ("show x", "a"), ("x := a", "ok"), ("show x", "a"))


class NoLines(Case):
    def test_words_too_many_or_too_few(self):
        self.assert_refused(
            NoLine, full_desk(), "", " ", "  ", "x", "x ", " x", "x x", "show", "show ", "show x y", "worth", "worth x",
            "worth x 1 1", "worth x y", "worth 1 x", "alike", "alike x", "alike x y n", "alike x y 1", "rest", "rest x",
            "rest x y", "rest x 1", "rest x y 1 1", "rest x y n", "rest 1 x y", "least", "least x y", "least x 3",
            "ways", "ways y 2", "ways y y", "unknowns", "unknowns x y", "hello", "hello x", "plus x y", "put x c y",
            "fixed x a 0", "x plus y", "x =", "x :=", "=", ":=", "= 3", ":= a", " = 3", " := a", "x=3", "x:=a", "x =3",
            "x= 3", "x :=a", "x: = a", "x : = a", "x == 3", "x x = 3", "x y := a", "3 = x", "worth =",
            "show x\n", "x\t= 3", "x\n= 3")

    def test_blanks(self):
        self.assert_refused(
            NoLine, full_desk(), "show  x", " show x", "show x ", "worth  x 1", "worth x  1", "worth x 1 ",
            " worth x 1", "alike x  y", "alike x y ", "rest x y  3", "rest x y 3 ", "rest  x y 3", " least x",
            "least x ", "ways y ", "unknowns x ", "unknowns  x", " x = 3", "x  = 3", "x  := a", " x := a",
            "new = plus x y ", "new = plus  x y", "new = plus x  y", "new = fixed x a 1 ", "new = fixed  x a 1",
            "new = put x a y ", "new = put x  a y", "new  = plus x y", " new = plus x y")

    def test_names(self):
        for name in ("", "abcdefghi", "X", "aB", "x1", "1", "x_y", "x-y", "(x)", "x,", "a.b", "\u00e4", "\u0430"):
            self.assert_refused(
                NoLine, full_desk(), f"{name} = 3", f"{name} := a", f"{name} = ", f"{name} = nonsense", f"show {name}",
                f"worth {name} 1", f"alike {name} x", f"alike x {name}", f"rest {name} x 2", f"rest x {name} 2",
                f"least {name}", f"ways {name}", f"unknowns {name}", f"new = plus {name} x", f"new = plus x {name}",
                f"new = less {name} x", f"new = times x {name}", f"new = fixed {name} a 1", f"new = put {name} a y",
                f"new = put x a {name}", f"{name} = plus x y", f"{name} = put x a y")

    def test_names_of_eight_letters(self):
        desk = full_desk()
        self.assert_says(desk, ("show abcdefgh", "7"), ("stuvwxyz = a", "ok"), ("new = plus abcdefgh stuvwxyz", "ok"),
                         ("show new", "7 + a"))

    def test_numbers(self):
        wrong = ("", "00", "01", "007", "+1", "-1", "1.0", "1,000", "1_000", "0x1", "a", "1a", "1" * 19, "9" * 19,
                 "1" + "0" * 18, "0" * 18, "\u0663", "\u00b2", "--1", "1e3", "b1")
        desk = full_desk()
        for number in wrong:
            self.assert_refused(NoLine, desk, f"worth x {number}", f"rest x y {number}")
        self.assert_refused(NoLine, desk, "rest x y 0", "rest x x 0", "rest x y 00")
        self.assert_says(desk, ("worth x 0", "3"), ("rest x x " + "9" * 18, "yes"), ("worth x " + "1" * 18, "2"),
                         ("rest x y 1" + "0" * 17, "0"), ("rest x y 1", "yes"), ("worth x 10", "3"))

    def test_letters_and_bits(self):
        desk = full_desk()
        for letter in ("", "q", "z", "A", "P", "0", "1", "10", "ab", "aa", "op", "abcdefghijklmnop", "-", "="):
            self.assert_refused(NoLine, desk, f"new = fixed x {letter} 0", f"new = put x {letter} y")
        for its in ("", "2", "00", "01", "10", "-1", "a", "x", "11", "+1"):
            self.assert_refused(NoLine, desk, f"new = fixed x a {its}")
        for letter in byhand.LETTERS:
            self.assert_says(desk, (f"new = fixed n {letter} 0", "ok"), (f"new = fixed n {letter} 1", "ok"),
                             (f"new = put n {letter} y", "ok"))

    def test_a_first_word_behind_the_sign_that_makes(self):
        for word in ("plus", "less", "times", "fixed", "put"):
            self.assert_refused(
                NoLine, full_desk(), f"new = {word}", f"new = {word} ", f"new = {word}  ", f"new = {word} x",
                f"new = {word} x y n", f"new = {word} x a y n", f"new = {word} x a 1 1", f"new = {word} + a",
                f"new = {word} 3", f"new = {word} x =", f"x = {word} x", f"{word} = {word}")

    def test_words_of_another_maker(self):
        self.assert_refused(NoLine, full_desk(), "new = plus x a 1", "new = plus x 1", "new = less x a y",
                            "new = times x y 3", "new = fixed x y", "new = fixed x a y", "new = put x y",
                            "new = put x a 1", "new = put x a", "new = fixed x a", "new = times 3 x")


class NoTexts(Case):
    def test_texts_that_are_no_form(self):
        desk = full_desk()
        for text in ("", " ", "  ", "=", "= 3", " 3", "3 ", "  3", "1a", "ba", "aa", "a + a", "b + a", "q", "+a", "- a",
                     "a+b", "a  + b", "a + 0", "0 + a", "00", "01", "x y", "hello", "plusx", "plusplus x y", "Plus x y",
                     "puts", "fixedx a 1", "show x", "a and b", "not a", "(a)", "3 -", "~", ":= a", " plus x y",
                     "a plus b", "3 plus x y"):
            self.assert_refused(NoForm, desk, f"new = {text}", f"x = {text}", f"plus = {text}")

    def test_texts_that_are_no_statement(self):
        desk = full_desk()
        for text in ("", " ", "()", " a", "a ", "a  and b", "a and b or c", "a and b and c", "not", "not  a", "nota",
                     "and", "a and", "q", "A", "2", "ab", "a + b", "(a", "a)", "a & b", "plus x y", "plus", "put x a y",
                     "hello", "= a", ":= a", "show x", "not not", "a not b", "3 - 2ab + c"):
            self.assert_refused(NoStatement, desk, f"new := {text}", f"x := {text}", f"show := {text}")

    def test_the_empty_text_and_no_text(self):
        desk = full_desk()
        self.assert_refused(NoForm, desk, "new = ", "x = ", "show = ")
        self.assert_refused(NoStatement, desk, "new := ", "x := ", "show := ")
        self.assert_refused(NoLine, desk, "new =", "x =", "show =", "new :=", "x :=", "show :=")


class NoNames(Case):
    def test_each_place_of_a_name(self):
        desk = full_desk()
        self.assert_refused(
            NoName, desk, "show no", "worth no 1", "alike no x", "alike x no", "alike no no", "rest no x 2",
            "rest x no 2", "least no", "ways no", "unknowns no", "new = plus no x", "new = plus x no",
            "new = less no x", "new = less x no", "new = times no n", "new = times n no", "new = fixed no a 0",
            "new = put no a y", "new = put x a no", "new = put x p no", "x = plus x no", "new = plus new x",
            "new = put new a new", "rest x no 1", "unknowns new")

    def test_an_empty_desk(self):
        desk = Desk()
        for word in ("show", "least", "ways", "unknowns"):
            for name in ("a", "x", word):
                self.assert_refused(NoName, desk, f"{word} {name}")
        self.assert_refused(NoName, desk, "x = plus x x", "a = fixed a a 1", "plus = plus plus plus", "x = put x a x")

    def test_a_form_that_is_nought_stands_by_its_name(self):
        desk = Desk()
        self.assert_says(desk, ("n = 0", "ok"), ("show n", "0"), ("least n", "0 0"), ("alike n n", "yes"))


class NoYesNos(Case):
    def test_put(self):
        desk = full_desk()
        for name in ("x", "neg", "plus", "show", "abcdefgh"):
            # Also where the form has not the unknown.
            self.assert_refused(NoYesNo, desk, f"new = put y a {name}", f"new = put y p {name}",
                                f"new = put n a {name}", f"x = put x c {name}")

    def test_ways(self):
        self.assert_refused(NoYesNo, full_desk(), "ways x", "ways neg", "ways plus", "ways show", "ways abcdefgh")
        desk = Desk()
        for text in ("2", "-1", "a + b", "2a", "-a", "1 - 2a", "1 + a", "a + b - 3ab", "1 - a - b"):
            desk.say(f"x = {text}")
            self.assert_refused(NoYesNo, desk, "ways x", "y = put x a x")

    def test_yes_no_forms_are_taken(self):
        desk = Desk()
        desk.say("x = 5c")
        for form in byhand.some_yes_no(4, 25, 2401):
            self.assert_says(desk, (f"y = {byhand.form_text(form)}", "ok"), ("z = put x c y", "ok"),
                             ("show z", byhand.form_text([(members, 5 * number) for members, number in form])))


class TooManies(Case):
    def test_bits_of_a_statement(self):
        desk = full_desk()
        self.assert_says(desk, ("new := a and (b and (c and (d and (e and (f and (g and h))))))", "ok"),
                         ("show new", "abcdefgh"))
        eight = " and (".join("abcdefgh"[place % 8] for place in range(30)) + ")" * 29
        self.assert_says(desk, (f"new := {eight}", "ok"), ("show new", "abcdefgh"))
        self.assert_says(desk, (f"new := {eight.replace('a', 'p').replace('pnd', 'and')}", "ok"),
                         ("show new", "bcdefghp"))
        nine = "a and (b and (c and (d and (e and (f and (g and (h and i)))))))"
        self.assert_refused(TooMany, desk, f"new := {nine}", f"x := {nine}", f"other := 0 and ({nine})",
                            f"other := ({nine}) xor ({nine})", f"other := {nine.replace('i', 'p')}",
                            "x := " + " or (".join(byhand.LETTERS) + ")" * 15)

    def test_many_parts_and_great_depth_are_not_refused(self):
        desk = Desk()
        self.assert_says(desk, ("x := " + "not " * 1040 + "a", "ok"), ("show x", "a"),
                         ("x := " + "not " * 1041 + "a", "ok"), ("show x", "1 - a"),
                         ("x := " + "(" * 2000 + "b" + ")" * 2000, "ok"), ("show x", "b"))
        deep = "a"
        for turn in range(480):
            deep = f"({deep}) or {'abcdefgh'[turn % 8]}"
        self.assert_says(desk, (f"x := {deep}", "ok"), ("worth x 0", "0"), ("worth x 64", "1"), ("worth x 256", "0"))
        self.assert_refused(TooMany, desk, f"y := {'not ' * 1000}({deep[:-1]}i)")

    def test_unknowns_beyond_nine(self):
        desk = Desk()
        for letter in "klmnop":
            desk.say(f"x = {letter}")
            self.assert_refused(TooMany, desk, "least x", "ways x")
            desk.say(f"x = 1 - a{letter}")
            self.assert_refused(TooMany, desk, "least x", "ways x")
            self.assert_says(desk, ("unknowns x", f"a{letter}"), ("worth x 1", "1"))
        for letter in "abcdefghij":
            desk.say(f"x = 1 - {letter}")
            self.assert_says(desk, ("least x", f"0 {2 ** byhand.LETTERS.index(letter)}"),
                             ("ways x", str(2 ** byhand.LETTERS.index(letter))))
        desk.say("x = -k")
        self.assert_refused(TooMany, desk, "least x")
        self.assert_says(desk, ("x = fixed x k 1", "ok"), ("least x", "-1 0"))

    def test_tuples_of_a_text(self):
        desk = full_desk()
        self.assert_says(desk, (f"many = {sum_of(300)}", "ok"), ("show many", sum_of(300)))
        self.assert_refused(TooMany, desk, f"many = {sum_of(301)}", f"new = {sum_of(301)}", f"x = {sum_of(400)}")

    def test_tuples_of_made_forms(self):
        desk = full_desk()
        # 150 and 150 tuples are kept together, and one more is not.
        self.assert_says(desk, (f"x = {sum_of(150)}", "ok"), (f"y = {sum_of(150, 150)}", "ok"),
                         ("many = plus x y", "ok"), ("show many", sum_of(300)), (f"other = {sum_of(1, 300)}", "ok"))
        self.assert_refused(TooMany, desk, "many = plus many other", "new = less many other", "new = plus other many")
        self.assert_says(desk, ("great = plus many x", "ok"), ("great = less great x", "ok"),
                         ("alike great many", "yes"))

    def test_tuples_of_products(self):
        desk = Desk()
        # 15 times 20 tuples over unlike unknowns, then 7 times 43.
        few = byhand.form_text([(2 ** 6 * members, 1) for members in range(20)])
        self.assert_says(desk, (f"x = {sum_of(15)}", "ok"), (f"y = {few}", "ok"), ("many = times x y", "ok"))
        few = byhand.form_text([(2 ** 6 * members, 1) for members in range(7)])
        self.assert_says(desk, (f"x = {sum_of(43)}", "ok"), (f"y = {few}", "ok"))
        self.assert_refused(TooMany, desk, "many = times x y", "many = times y x", "new = times x y")

    def test_tuples_of_a_form_put_in(self):
        desk = Desk()
        # The product of p and 100 tuples, with a yes-no form of 3 tuples and of 4 in the place of p.
        hundred = byhand.form_text([(2 ** 15 + members, 1) for members in range(100)])
        self.assert_says(desk, (f"x = {hundred}", "ok"), ("y := h or i", "ok"), ("many = put x p y", "ok"),
                         ("y = h + i - hi + hij", "ok"))
        self.assert_refused(NoYesNo, desk, "many = put x p y")
        self.assert_says(desk, ("y := h or (i or j)", "ok"))
        self.assert_refused(TooMany, desk, "many = put x p y", "x = put x p y")
        self.assert_says(desk, ("x = fixed x p 1", "ok"), ("x = put x p y", "ok"), ("show x", sum_of(100)))

    def test_figures_of_a_text(self):
        desk = full_desk()
        self.assert_says(desk, (f"great = {GREAT}", "ok"), ("show great", GREAT), (f"great = 1 - {GREAT}p", "ok"),
                         ("show great", f"1 - {GREAT}p"))
        more = "1" + "0" * 1000
        self.assert_refused(TooMany, desk, f"great = {more}", f"great = -{more}", f"new = {more}p", f"x = 1 - {more}p",
                            f"new = {GREAT}a + {more}p", f"new = {'7' * 4190}", f"new = {'7' * 4400}a")

    def test_figures_of_made_forms(self):
        desk = full_desk()
        self.assert_says(desk, (f"great = {GREAT} + a", "ok"), (f"other = -{GREAT} - {GREAT}p", "ok"))
        self.assert_refused(
            TooMany, desk, "great = plus great one", "new = plus great great",
            "new = less other one", "new = less other great", "new = times great great", "new = times other plus",
            "great = fixed great a 1", "other = fixed other p 1", "great = put great a one", "other = put other p one")
        self.assert_says(desk, ("new = plus great other", "ok"), ("show new", f"a - {GREAT}p"),
                         ("new = less great one", "ok"), ("show new", "9" * 999 + "8 + a"),
                         ("great = fixed great a 0", "ok"), ("great = put great a one", "ok"), ("show great", GREAT))

    def test_figures_of_a_product(self):
        desk = Desk()
        desk.say("x = 1" + "0" * 500)
        desk.say("y = 1" + "0" * 499)
        self.assert_says(desk, ("z = times x y", "ok"), ("show z", "1" + "0" * 999))
        self.assert_refused(TooMany, desk, "z = times x x")


class Order(Case):
    def test_no_line_ahead_of_all(self):
        desk = full_desk()
        self.assert_refused(NoLine, desk, "abcdefghi = nonsense", "X := nonsense", "rest no no 0", "worth no 01",
                            "new = fixed no q 0", "new = fixed no a 2", "new = put no q x", "ways X", "least no x",
                            "new = plus no no no", "new = put x q no", f"Y = {sum_of(301)}", "new = put x aa x",
                            "rest x y " + "1" * 19, "alike no X", "alike X no")

    def test_no_form_and_no_statement_ahead_of_too_many(self):
        desk = full_desk()
        more = "1" + "0" * 1000
        self.assert_refused(NoForm, desk, f"new = {sum_of(301)} + a", f"new = {sum_of(301)} ", f"new = {more}q",
                            f"new = {more} + {more}", f"new = 0{more}", f"new = {sum_of(301)} + 0")
        nine = "a and (b and (c and (d and (e and (f and (g and (h and i)))))))"
        self.assert_refused(NoStatement, desk, f"new := {nine})", f"new := {nine} ", f"new := {nine} and q",
                            f"new := {nine[:-1]}", f"new := {nine} or a or b")

    def test_no_name_ahead_of_no_yes_no(self):
        self.assert_refused(NoName, full_desk(), "new = put no a x", "new = put x a no", "new = put no a no", "ways no")

    def test_no_name_ahead_of_too_many(self):
        desk = full_desk()
        desk.say(f"great = {GREAT}")
        self.assert_refused(NoName, desk, "new = times great no", "new = plus no great", "new = put great a no")

    def test_no_yes_no_ahead_of_too_many(self):
        desk = full_desk()
        self.assert_says(desk, ("other = 2k", "ok"), (f"great = a + {GREAT}p", "ok"), (f"many = {sum_of(300)}", "ok"))
        self.assert_refused(NoYesNo, desk, "ways other", "ways many", "new = put great p x", "new = put many a many")
        self.assert_refused(TooMany, desk, "least other", "ways k", "ways p", "least great")
        self.assert_says(desk, ("other = k + l", "ok"))
        self.assert_refused(NoYesNo, desk, "ways other")


class Kept(Case):
    def test_a_refused_line_is_answered_when_it_is_due(self):
        desk = Desk()
        self.assert_refused(NoName, desk, "show x", "y = plus x x", "worth x 1")
        self.assert_says(desk, ("x = 2a", "ok"), ("show x", "2a"), ("y = plus x x", "ok"), ("worth x 1", "2"))
        self.assert_refused(NoYesNo, desk, "ways x", "z = put y a x")
        self.assert_refused(NoName, desk, "show z")
        self.assert_says(desk, ("x = b", "ok"), ("ways x", "2"), ("z = put y a x", "ok"), ("show z", "4b"))
        self.assert_says(desk, ("x = k", "ok"))
        self.assert_refused(TooMany, desk, "ways x", "least x")
        self.assert_says(desk, ("x = fixed x k 0", "ok"), ("ways x", "0"), ("least x", "0 0"))
        self.assert_says(desk, (f"g = {GREAT}", "ok"), ("h = 1", "ok"))
        self.assert_refused(TooMany, desk, "g = plus g h")
        self.assert_says(desk, ("show g", GREAT), ("h = -1", "ok"), ("g = plus g h", "ok"), ("show g", "9" * 999 + "8"))

    def test_an_answered_line_is_refused_when_that_is_due(self):
        desk = Desk()
        self.assert_says(desk, ("x = a", "ok"), ("ways x", "1"), ("x = 2a", "ok"))
        self.assert_refused(NoYesNo, desk, "ways x")

    def test_asking_changes_nothing(self):
        desk = full_desk()
        ahead = self.kept(desk)
        for line in ("show x", "worth x 5", "alike x y", "rest x y 3", "least x", "ways y", "unknowns x"):
            first = desk.say(line)
            self.assertEqual(self.kept(desk), ahead)
            self.assertEqual(desk.say(line), first)

    def test_made_forms_do_not_hang_on_one_another(self):
        desk = Desk()
        self.assert_says(desk, ("x = a + b", "ok"), ("n = 0", "ok"), ("y = plus x n", "ok"), ("z = fixed x p 0", "ok"),
                         ("x = 7", "ok"), ("show y", "a + b"), ("show z", "a + b"), ("y = 1", "ok"),
                         ("show z", "a + b"), ("show x", "7"))

    def test_two_desks(self):
        one, other = Desk(), Desk()
        self.assert_says(one, ("x = a", "ok"), ("y = 1", "ok"))
        self.assert_refused(NoName, other, "show x", "show y")
        self.assert_says(other, ("x = 5b", "ok"), ("show x", "5b"))
        self.assert_says(one, ("show x", "a"), ("x = plus x y", "ok"), ("show x", "1 + a"))
        self.assert_refused(NoName, other, "x = plus x y")
        self.assert_says(other, ("show x", "5b"), ("z = 2", "ok"))
        self.assert_refused(NoName, one, "show z")
        self.assert_refused(NoName, Desk(), "show x", "show y", "show z")


class ByHand(unittest.TestCase):
    def a_line(self, source, names):
        """A line that is right, or nearly so."""
        name, one, other = (source.choice(names) for place in range(3))
        letter = source.choice("aabbccddq" if source.random() < 0.1 else "abcd")
        number = source.choice(("0", "1", "2", "3", "7", "10", "15", "255", "00", "1x"))
        kind = source.randrange(16)
        if kind < 3:
            sets = sorted(source.sample(range(16), source.randrange(4)))
            return f"{name} = " + byhand.form_text([(members, source.choice((1, -1, 2, -3))) for members in sets])
        if kind < 6:
            statement = byhand.a_statement(source, source.randrange(1, 9), range(4))
            return f"{name} := " + byhand.statement_text(statement, source)
        return (f"{name} = plus {one} {other}", f"{name} = less {one} {other}", f"{name} = times {one} {other}",
                f"{name} = fixed {one} {letter} {number[0]}", f"{name} = put {one} {letter} {other}",
                f"worth {one} {number}", f"alike {one} {other}", f"rest {one} {other} {number}",
                source.choice((f"least {one}", f"show {one}")),
                source.choice((f"ways {one}", f"unknowns {one}")))[kind - 6]

    def changed(self, source, line):
        """The line with one sign or one word put in, taken out or changed."""
        if source.random() < 0.5:
            words = line.split(" ")
            place = source.randrange(len(words))
            words[place:place + source.randrange(2)] = source.choice((["x"], [], [""], ["plus"], ["="], [":="], ["a"]))
            return " ".join(words)
        place = source.randrange(len(line) + 1)
        return line[:place] + source.choice(("", " ", "a", "=", "0", "q", "A")) + line[place + source.randrange(2):]

    def test_desks_beside_one_another(self):
        source = random.Random(2402)
        names = ("x", "y", "plus", "show", "a")
        seen = set()
        for turn in range(40):
            desk, wanted = Desk(), byhand.Desk()
            for step in range(60):
                line = self.a_line(source, names)
                if source.random() < 0.3:
                    line = self.changed(source, line)
                told = heard(desk, line)
                self.assertEqual(told, wanted.say(line), line)
                seen.add(told)
            for name in names:
                self.assertEqual(heard(desk, f"show {name}"), wanted.say(f"show {name}"))
        self.assertLessEqual({"ok", "yes", "none", "NoLine", "NoForm", "NoStatement", "NoName", "NoYesNo"}, seen)


if __name__ == "__main__":
    unittest.main()
