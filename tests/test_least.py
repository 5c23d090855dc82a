"""Point 19: the floor, the least worth, and papers that show that no worth is less."""

import random
import unittest

import byhand
from byhand import BIG
from onceform.least import floor, least, shows

# Worth b where c has the bit 0, else 0: its floor is -1, and a choice by b or c shows 0.
GAP = [(2, 1), (6, -1)]


def deep(unknowns, end, inner):
    """A paper with one tuple below another, each with an end beside it."""
    paper = inner
    for place, k in enumerate(unknowns):
        paper = (k, paper, end) if place % 2 == 0 else (k, end, paper)
    return paper


class Floor(unittest.TestCase):
    def test_numbers_below_nought_and_the_set_0(self):
        self.assertEqual(floor([]), 0)
        self.assertEqual(floor([(0, 5)]), 5)
        self.assertEqual(floor([(0, -5)]), -5)
        self.assertEqual(floor([(1, 5)]), 0)
        self.assertEqual(floor([(1, -5)]), -5)
        self.assertEqual(floor([(0, 5), (1, -3), (2, 7), (3, -1)]), 1)
        self.assertEqual(floor([(0, -5), (1, -3), (2, 7), (3, -1)]), -9)
        self.assertEqual(floor([(0, BIG), (2 ** 59, -BIG), (2 ** 60 - 1, 1)]), 0)

    def test_as_by_hand(self):
        for form in byhand.some_forms(5, 100, 801) + byhand.some_forms(60, 100, 802):
            self.assertEqual(floor(form), byhand.floor(form))


class Least(unittest.TestCase):
    def agree(self, form, many):
        worths = byhand.table(form, many)
        told = least(form, many)
        self.assertIs(type(told), tuple)
        number, given, paper = told
        self.assertEqual((number, given), (min(worths), worths.index(min(worths))), form)
        self.assertLessEqual(byhand.tree_depth(paper), many)
        self.assertFalse(byhand.twice_on_a_way(paper))
        self.assertLessEqual(number, byhand.most_shown(form, paper))
        self.assertIs(shows(form, number, paper), True)
        self.assertIs(shows(form, number - 1, paper), True)
        self.assertIs(shows(form, number + 1, paper), False)
        return paper

    def test_forms_whose_floor_is_the_least_worth(self):
        self.assertEqual(least([], 0), (0, 0, 0))
        self.assertEqual(least([], 10), (0, 0, 0))
        self.assertEqual(least([(0, -BIG)], 0)[:2], (-BIG, 0))
        self.assertEqual(least([(0, 7)], 3)[:2], (7, 0))
        self.assertEqual(least([(0, 7), (3, -2)], 2)[:2], (5, 3))

    def test_the_least_given_of_several(self):
        self.assertEqual(least([(1, 1), (2, -1), (4, -1), (6, 1)], 3)[:2], (-1, 2))
        self.assertEqual(least([(512, -1)], 10)[:2], (-1, 512))
        self.assertEqual(least([(0, 1), (1, -1), (2, -1), (3, 1)], 2)[:2], (0, 1))

    def test_a_choice_that_is_needed(self):
        self.assertIn(self.agree(GAP, 3)[0], (1, 2))
        self.assertNotEqual(self.agree([(1, 1), (2, 1), (3, -2)], 2), 0)

    def test_each_many(self):
        for many in range(11):
            count = 30 if many < 8 else 10
            for form in byhand.some_forms(many, count, 810 + many):
                self.agree(form, many)

    def test_many_above_all_unknowns(self):
        for form in byhand.some_forms(3, 30, 803):
            self.agree(form, 5)

    def test_sets_beyond_many_are_not_refused(self):
        self.assertEqual(least([(4, -1)], 2), (0, 0, 0))
        self.assertEqual(least([(0, 3), (1, -1), (5, -8)], 2)[:2], (2, 1))

    def test_tables_of_all_sorts(self):
        source = random.Random(804)
        for many in range(6):
            for turn in range(30):
                great = source.choice((1, 3, BIG))
                self.agree(byhand.form_from([source.randint(-great, great) for given in range(2 ** many)]), many)

    def test_yes_no_forms(self):
        for form in byhand.some_yes_no(6, 20, 805):
            self.agree(form, 6)

    def test_three_hundred_tuples(self):
        source = random.Random(806)
        for great in (1, 1000, BIG):
            sets = sorted(source.sample(range(1024), 300))
            self.agree([(members, source.choice((-1, 1)) * source.randint(1, great)) for members in sets], 10)

    def test_all_ten_unknowns_needed(self):
        # An odd number of unknowns with the bit 1: worth 1, else 0.
        odd = [(members, (-2) ** (bin(members).count("1") - 1)) for members in range(1, 1024)]
        self.agree(odd, 10)


class Shows(unittest.TestCase):
    def test_no_choice(self):
        self.assertIs(shows([], 0, 0), True)
        self.assertIs(shows([], 1, 0), False)
        self.assertIs(shows([], -1, 0), True)
        self.assertIs(shows(GAP, -1, 0), True)
        self.assertIs(shows(GAP, 0, 0), False)
        self.assertIs(shows([(0, 3), (1, BIG)], 3, 0), True)
        self.assertIs(shows([(0, 3), (1, BIG)], 4, 0), False)

    def test_one_choice(self):
        for k in (1, 2):
            self.assertIs(shows(GAP, 0, (k, 0, 0)), True)
            self.assertIs(shows(GAP, 1, (k, 0, 0)), False)
        for k in (0, 3, 59):
            self.assertIs(shows(GAP, 0, (k, 0, 0)), False)
            self.assertIs(shows(GAP, -1, (k, 0, 0)), True)

    def test_ones_and_others_each_of_their_own_form(self):
        # Worth 2 where the unknown 0 has the bit 1, else as GAP.
        form = [(1, 2), (2, 1), (3, -1), (6, -1), (7, 1)]
        self.assertIs(shows(form, 0, (0, 0, (1, 0, 0))), True)
        self.assertIs(shows(form, 0, (0, (1, 0, 0), 0)), False)
        self.assertIs(shows(form, 0, (0, 0, 0)), False)

    def test_an_unknown_that_the_form_has_not(self):
        self.assertIs(shows(GAP, 0, (9, (1, 0, 0), (2, 0, 0))), True)
        self.assertIs(shows(GAP, 0, (9, (1, 0, 0), (1, 0, 0))), True)
        self.assertIs(shows(GAP, 0, (9, (1, 0, 0), 0)), False)
        self.assertIs(shows(GAP, 0, (9, 0, (1, 0, 0))), False)

    def test_an_unknown_twice_on_a_way(self):
        # Both papers of the second choice are asked of the form whose unknown has got its bit already.
        form = [(2, 1), (6, -1), (9, 1)]
        needed = (1, 0, 0)
        self.assertIs(shows(form, 0, (0, needed, needed)), True)
        self.assertIs(shows(form, 0, (0, (0, needed, needed), (0, needed, needed))), True)
        self.assertIs(shows(form, 0, (0, (0, needed, 0), needed)), False)
        self.assertIs(shows(form, 0, (0, (0, 0, needed), needed)), False)
        self.assertIs(shows(form, 0, (0, needed, (0, needed, 0))), False)
        self.assertIs(shows(form, 0, (0, needed, (0, 0, needed))), False)

    def test_any_papers(self):
        source = random.Random(807)
        for form in byhand.some_forms(6, 150, 808):
            for size in (1, 3, 8, 30):
                paper = byhand.a_paper(source, size, source.choice(([0, 1], [0, 1, 2, 3, 4, 5], [0, 3, 6, 59])))
                most = byhand.most_shown(form, paper)
                for number in (most, most - 1, most - BIG):
                    self.assertIs(shows(form, number, paper), True)
                for number in (most + 1, most + BIG):
                    self.assertIs(shows(form, number, paper), False)

    def test_forty_deep(self):
        source = random.Random(809)
        for form in byhand.some_forms(5, 30, 820) + [GAP]:
            some = [source.randrange(6) for k in range(40)]
            for unknowns in (list(range(40)), list(range(59, 19, -1)), [0] * 40, some):
                for end in (0, (0, 0, 0), (4, (1, 0, 0), 0)):
                    paper = deep(unknowns[byhand.tree_depth(end):], end, end)
                    most = byhand.most_shown(form, paper)
                    self.assertIs(shows(form, most, paper), True)
                    self.assertIs(shows(form, most + 1, paper), False)

    def test_two_thousand_tuples(self):
        source = random.Random(821)
        form = [(members, source.choice((-3, -1, 1, 2))) for members in sorted(source.sample(range(2 ** 12), 300))]
        paper = byhand.a_paper(source, 2000, list(range(12)))
        while byhand.tree_depth(paper) > 40:
            paper = byhand.a_paper(source, 2000, list(range(12)))
        most = byhand.most_shown(form, paper)
        self.assertIs(shows(form, most, paper), True)
        self.assertIs(shows(form, most + 1, paper), False)

    def test_forms_of_sixty_unknowns(self):
        form = [(2 ** 58, 1), (2 ** 59, BIG), (2 ** 59 + 2 ** 58, -1 - BIG)]
        self.assertIs(shows(form, -1 - BIG, 0), True)
        self.assertIs(shows(form, -BIG, 0), False)
        for k in (58, 59):
            self.assertIs(shows(form, 0, (k, 0, 0)), True)
            self.assertIs(shows(form, 1, (k, 0, 0)), False)
        self.assertIs(shows(form, 0, (57, 0, 0)), False)
        self.assertIs(shows(form, 0, (57, (58, 0, 0), (59, 0, 0))), True)

    def test_papers_built_of_like_ones(self):
        paper = (1, 0, 0)
        for turn in range(39):
            paper = (7, paper, paper)
        self.assertIs(shows(GAP, 0, paper), True)
        self.assertIs(shows(GAP, 1, paper), False)


if __name__ == "__main__":
    unittest.main()
