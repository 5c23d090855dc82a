"""Points 8 to 10: unknowns that get a bit, a new number or a yes-no form, and where two forms are unlike."""

import random
import unittest

import byhand
from byhand import BIG
from onceform.changes import fixed, is_yes_no, put_in, renamed, unlike, unlike_by

TOP = 2 ** 59
WHOLE = 2 ** 60 - 1


class ChangeCase(unittest.TestCase):
    def assert_worths(self, told, wanted, many):
        """The told list is a form, and at each GIVEN of that many unknowns it has the worth that wanted tells."""
        self.assertIsNone(byhand.fault(told), told)
        self.assertEqual(byhand.table(told, many), [wanted(given) for given in range(2 ** many)])


class Fixed(ChangeCase):
    def test_an_unknown_that_the_form_has(self):
        form = [(0, 1), (1, 2), (2, 4), (3, 8), (6, 16)]
        self.assertEqual(fixed(form, 1, 1), [(0, 5), (1, 10), (4, 16)])
        self.assertEqual(fixed(form, 1, 0), [(0, 1), (1, 2)])

    def test_an_unknown_that_the_form_has_not(self):
        form = [(0, 1), (1, 2), (4, BIG)]
        for its in (0, 1):
            self.assertEqual(fixed(form, 1, its), form)
            self.assertEqual(fixed(form, 59, its), form)

    def test_what_comes_to_0_is_left_out(self):
        self.assertEqual(fixed([(1, BIG), (3, -BIG)], 1, 1), [])
        self.assertEqual(fixed([(0, 1), (1, -1)], 0, 1), [])

    def test_the_empty_form_and_the_set_0(self):
        for its in (0, 1):
            self.assertEqual(fixed([], 0, its), [])
            self.assertEqual(fixed([(0, -BIG)], 0, its), [(0, -BIG)])

    def test_sets_rise_in_what_is_told(self):
        self.assertEqual(fixed([(2, 1), (4, 1), (9, 1), (12, 1)], 3, 1), [(1, 1), (2, 1), (4, 2)])

    def test_unknown_59(self):
        form = [(1, 5), (TOP, BIG), (TOP + 1, -1), (WHOLE, 3)]
        self.assertEqual(fixed(form, 59, 1), [(0, BIG), (1, 4), (TOP - 1, 3)])
        self.assertEqual(fixed(form, 59, 0), [(1, 5)])

    def test_worths_and_no_set_with_the_unknown(self):
        for form in byhand.some_forms(4, 40, 101):
            for k in range(5):
                for its in (0, 1):
                    told = fixed(form, k, its)
                    self.assert_worths(told, lambda given: byhand.worth(form, byhand.with_bit(given, k, its)), 5)
                    self.assertFalse([members for members, number in told if byhand.bit(members, k) == 1])


class Renamed(ChangeCase):
    def test_new_numbers(self):
        form = [(0, 1), (1, 2), (3, 4), (6, 8)]
        self.assertEqual(renamed(form, [2, 0, 1]), [(0, 1), (3, 8), (4, 2), (5, 4)])
        self.assertEqual(renamed(form, [0, 1, 2]), form)

    def test_several_become_the_same(self):
        self.assertEqual(renamed([(1, 2), (2, 3), (3, 4)], [5, 5]), [(32, 9)])
        self.assertEqual(renamed([(1, 1), (2, 1), (3, -2)], [0, 0]), [])
        self.assertEqual(renamed([(0, 7), (7, BIG), (8, 1)], [3, 3, 1, 1]), [(0, 7), (2, 1), (10, BIG)])

    def test_one_becomes_another_that_stays(self):
        self.assertEqual(renamed([(1, 2), (2, 3), (3, 4)], [1, 1]), [(2, 9)])

    def test_two_change_places(self):
        self.assertEqual(renamed([(1, 2), (2, 3), (3, 4)], [1, 0]), [(1, 3), (2, 2), (3, 4)])

    def test_no_unknowns(self):
        self.assertEqual(renamed([], []), [])
        self.assertEqual(renamed([(0, 4)], []), [(0, 4)])
        self.assertEqual(renamed([(0, 4)], [3, 3]), [(0, 4)])

    def test_entries_for_unknowns_that_the_form_has_not(self):
        self.assertEqual(renamed([(4, 1)], [7, 7, 0, 7]), [(1, 1)])
        self.assertEqual(renamed([(4, 1)], [-1, 10 ** 40, 3]), [(8, 1)])

    def test_unknowns_up_to_59(self):
        turned = list(range(59, -1, -1))
        self.assertEqual(renamed([(1, 1), (2, 2), (TOP, 3), (WHOLE, 4)], turned),
                         [(1, 3), (2 ** 58, 2), (TOP, 1), (WHOLE, 4)])
        self.assertEqual(renamed([(0, -1), (TOP, BIG), (WHOLE, 1)], [59] * 60), [(0, -1), (TOP, BIG + 1)])

    def test_worths(self):
        source = random.Random(102)
        for form in byhand.some_forms(4, 100, 103):
            new = [source.randrange(5) for k in range(4)]
            told = renamed(form, new)
            self.assert_worths(told, lambda given: byhand.worth(form, byhand.moved_given(given, new, range(4))), 5)


class IsYesNo(unittest.TestCase):
    def test_yes_no_forms(self):
        for form in ([], [(0, 1)], [(1, 1)], [(TOP, 1)], [(WHOLE, 1)], [(0, 1), (1, -1)], [(1, 1), (2, 1), (3, -2)],
                     [(1, 1), (2, 1), (3, -1)], [(0, 1), (1, -1), (TOP + 1, 1)]):
            self.assertIs(is_yes_no(form), True, form)

    def test_others(self):
        for form in ([(0, 2)], [(0, -1)], [(1, -1)], [(1, 2)], [(0, 1), (1, 1)], [(1, 1), (2, 1)], [(0, BIG)],
                     [(1, 1), (2, 1), (3, -3)], [(1, 1), (2, -1)], [(0, 1), (TOP, 1)], [(WHOLE, BIG)]):
            self.assertIs(is_yes_no(form), False, form)

    def test_a_worth_of_2_or_below_0_at_the_last_given_alone(self):
        three = [(1, 1), (2, 1), (3, -1), (4, 1), (5, -1), (6, -1), (7, 1)]
        self.assertIs(is_yes_no(three), True)
        self.assertIs(is_yes_no(three[:-1] + [(7, 2)]), False)
        self.assertIs(is_yes_no(three[:-1] + [(7, -1)]), False)

    def test_all_forms_of_two_unknowns_with_small_numbers(self):
        for code in range(5 ** 4):
            form = [(members, code // 5 ** members % 5 - 2) for members in range(4) if code // 5 ** members % 5 != 2]
            wanted = set(byhand.table(form, 2)) <= {0, 1}
            self.assertIs(is_yes_no(form), wanted, form)

    def test_as_by_hand(self):
        for form in byhand.some_yes_no(5, 40, 104):
            self.assertIs(is_yes_no(form), True, form)
        for form in byhand.some_forms(4, 80, 105):
            self.assertIs(is_yes_no(form), set(byhand.table(form, 4)) <= {0, 1}, form)

    def test_300_tuples(self):
        self.assertIs(is_yes_no([(members, 1) for members in range(300)]), False)
        # 1 where all of eight unknowns have the bit 0.
        eight = [(members, (-1) ** bin(members).count("1")) for members in range(256)]
        self.assertIs(is_yes_no(eight), True)
        self.assertIs(is_yes_no(eight + [(TOP, 1)]), False)


class PutIn(ChangeCase):
    def test_in_the_place_of_an_unknown(self):
        self.assertEqual(put_in([(0, 1), (1, 5), (3, 2)], 0, [(4, 1)]), [(0, 1), (4, 5), (6, 2)])
        self.assertEqual(put_in([(2, 3)], 1, [(1, 1), (4, 1), (5, -2)]), [(1, 3), (4, 3), (5, -6)])
        self.assertEqual(put_in([(3, 1)], 0, [(2, 1)]), [(2, 1)])

    def test_a_yes_no_form_that_has_the_unknown_itself(self):
        self.assertEqual(put_in([(0, 1), (1, 2)], 0, [(0, 1), (1, -1)]), [(0, 3), (1, -2)])
        self.assertEqual(put_in([(1, 2), (3, 4)], 0, [(3, 1)]), [(3, 6)])
        self.assertEqual(put_in([(1, 2), (3, 4)], 0, [(1, 1)]), [(1, 2), (3, 4)])

    def test_a_form_that_has_the_unknown_not(self):
        form = [(0, 1), (2, BIG), (4, -1)]
        for other in ([], [(0, 1)], [(1, 1)], [(2, 1)], [(0, 1), (TOP, -1)]):
            self.assertEqual(put_in(form, 0, other), form)
            self.assertEqual(put_in([], 0, other), [])

    def test_0_and_1_are_put_in_as_bits(self):
        for form in byhand.some_forms(4, 20, 106):
            for k in range(4):
                self.assertEqual(put_in(form, k, []), fixed(form, k, 0))
                self.assertEqual(put_in(form, k, [(0, 1)]), fixed(form, k, 1))

    def test_unknown_59(self):
        self.assertEqual(put_in([(1, 1), (TOP, BIG), (TOP + 1, 2)], 59, [(0, 1), (TOP, -1)]),
                         [(0, BIG), (1, 3), (TOP, -BIG), (TOP + 1, -2)])

    def test_what_comes_to_0_is_left_out(self):
        self.assertEqual(put_in([(1, 3), (2, -3)], 0, [(2, 1)]), [])

    def test_worths(self):
        others = byhand.some_yes_no(4, 40, 107)
        for form, other in zip(byhand.some_forms(4, 40, 108), others[::-1]):
            for k in range(5):
                told = put_in(form, k, other)

                def wanted(given):
                    return byhand.worth(form, byhand.with_bit(given, k, byhand.worth(other, given)))

                self.assert_worths(told, wanted, 5)


class Unlike(unittest.TestCase):
    def test_the_least_given(self):
        self.assertEqual(unlike([(0, 1)], []), 0)
        self.assertEqual(unlike([(1, 1), (2, 1)], [(1, 1), (2, 2)]), 2)
        self.assertEqual(unlike([(1, 1), (2, 1), (3, -1)], [(1, 1), (2, 1), (3, -2)]), 3)
        self.assertEqual(unlike([(5, BIG)], [(5, BIG + 1)]), 5)
        self.assertEqual(unlike([(6, 1)], [(5, 1)]), 5)
        self.assertEqual(unlike([], [(TOP, 1)]), TOP)
        self.assertEqual(unlike([(WHOLE, -1)], []), WHOLE)

    def test_none(self):
        self.assertIsNone(unlike([], []))
        for form in byhand.some_forms(60, 30, 109):
            self.assertIsNone(unlike(form, list(form)))

    def test_as_by_hand(self):
        forms = byhand.some_forms(4, 60, 110) + byhand.some_yes_no(4, 30, 111)
        for one in forms[::3]:
            for other in forms:
                pairs = zip(byhand.table(one, 4), byhand.table(other, 4))
                wanted = [given for given, (left, right) in enumerate(pairs) if left != right]
                self.assertEqual(unlike(one, other), wanted[0] if wanted else None)


class UnlikeBy(unittest.TestCase):
    def test_the_least_given(self):
        self.assertEqual(unlike_by([(0, 1)], [(0, 4)], 2), 0)
        self.assertEqual(unlike_by([(1, 3), (2, 1)], [], 3), 2)
        self.assertEqual(unlike_by([(1, 3), (2, 6), (4, BIG)], [(4, BIG - 1)], 3), 4)
        self.assertEqual(unlike_by([(TOP, BIG)], [], BIG + 1), TOP)

    def test_none(self):
        self.assertIsNone(unlike_by([(0, 1)], [(0, 4)], 3))
        self.assertIsNone(unlike_by([(1, BIG), (TOP, -2 * BIG)], [], BIG))
        self.assertIsNone(unlike_by([], [], 5))

    def test_rests_by_1_are_never_unlike(self):
        for form in byhand.some_forms(60, 20, 112):
            self.assertIsNone(unlike_by(form, [], 1))
            self.assertIsNone(unlike_by([], form, 1))

    def test_numbers_below_0(self):
        self.assertIsNone(unlike_by([(0, -1)], [(0, 2)], 3))
        self.assertIsNone(unlike_by([(1, -BIG)], [(1, BIG)], 2))
        self.assertEqual(unlike_by([(0, -1)], [(0, 1)], 3), 0)
        self.assertEqual(unlike_by([(0, 2), (1, -4)], [(0, -1)], 3), 1)

    def test_as_by_hand(self):
        forms = byhand.some_forms(4, 45, 113)
        for m in (1, 2, 3, 5, 7, 12, BIG, 2 * BIG):
            for one, other in zip(forms, forms[7:] + forms[:7]):
                pairs = zip(byhand.table(one, 4), byhand.table(other, 4))
                wanted = [given for given, (left, right) in enumerate(pairs) if left % m != right % m]
                self.assertEqual(unlike_by(one, other, m), wanted[0] if wanted else None)


if __name__ == "__main__":
    unittest.main()
