"""Points 2, 5 and 6: forms, what is told of them, and whether a list is one."""

import unittest

import byhand
from byhand import BIG
from onceform.forms import is_form, less, made, plus, scaled, times, unknowns, worth

TOP = 2 ** 59


class FormCase(unittest.TestCase):
    def assert_form(self, told, wanted):
        """The told list is a form and has the wanted worths at all GIVENs of the unknowns 0 to 3."""
        self.assertIsNone(byhand.fault(told), told)
        self.assertEqual(byhand.table(told, 4), wanted)


class Made(FormCase):
    def test_any_order_sets_twice_and_numbers_0(self):
        self.assertEqual(made([(5, 2), (0, 1), (5, -3), (2, 0), (1, 4)]), [(0, 1), (1, 4), (5, -1)])

    def test_sets_that_come_to_0_are_left_out(self):
        self.assertEqual(made([(3, 7), (1, 2), (3, -7)]), [(1, 2)])
        self.assertEqual(made([(3, BIG), (3, -BIG)]), [])
        self.assertEqual(made([(0, 0), (9, 0)]), [])

    def test_a_set_that_came_to_0_may_come_again(self):
        self.assertEqual(made([(3, 7), (3, -7), (3, 5)]), [(3, 5)])

    def test_empty_list_and_set_0(self):
        self.assertEqual(made([]), [])
        self.assertEqual(made([(0, -4)]), [(0, -4)])

    def test_numbers_of_sixty_figures(self):
        self.assertEqual(made([(6, BIG), (1, -BIG), (6, BIG)]), [(1, -BIG), (6, 2 * BIG)])

    def test_unknowns_up_to_59(self):
        whole = 2 ** 60 - 1
        self.assertEqual(made([(whole, 1), (TOP, -2), (1, 3)]), [(1, 3), (TOP, -2), (whole, 1)])

    def test_sets_rise_as_numbers_not_as_texts(self):
        self.assertEqual(made([(10, 1), (9, 1), (100, 1), (2, 1)]), [(2, 1), (9, 1), (10, 1), (100, 1)])

    def test_a_form_is_its_own_form(self):
        for form in byhand.some_forms(6, 60, 1):
            self.assertEqual(made(form), form)

    def test_more_tuples_than_handed_in_by_the_bounds(self):
        self.assertEqual(made([(members, 1) for members in range(999, -1, -1)]), [(k, 1) for k in range(1000)])

    def test_the_worths_are_those_of_the_list(self):
        for some in byhand.some_lists(4, 200, 2):
            self.assert_form(made(some), byhand.table(some, 4))

    def test_lists_of_the_same_worths_have_the_same_form(self):
        for some in byhand.some_lists(5, 60, 3):
            turned = some[::-1] + [(7, 0), (3, BIG), (3, -BIG)]
            self.assertEqual(made(turned), made(some))


class SumAndDifference(FormCase):
    def test_plus(self):
        self.assertEqual(plus([(0, 1), (3, 2)], [(1, 5), (3, 4)]), [(0, 1), (1, 5), (3, 6)])
        self.assertEqual(plus([(4, 1)], [(1, -1)]), [(1, -1), (4, 1)])

    def test_plus_leaves_out_what_comes_to_0(self):
        self.assertEqual(plus([(1, 2), (TOP, BIG)], [(1, 3), (TOP, -BIG)]), [(1, 5)])

    def test_less(self):
        self.assertEqual(less([(0, 1), (3, 2)], [(1, 5), (3, 4)]), [(0, 1), (1, -5), (3, -2)])
        self.assertEqual(less([(1, 3), (2, BIG)], [(1, 3)]), [(2, BIG)])

    def test_with_the_empty_form(self):
        form = [(0, -1), (TOP, BIG)]
        self.assertEqual(plus(form, []), form)
        self.assertEqual(plus([], form), form)
        self.assertEqual(less(form, []), form)
        self.assertEqual(less([], form), [(0, 1), (TOP, -BIG)])
        self.assertEqual(plus([], []), [])
        self.assertEqual(less([], []), [])

    def test_a_form_less_itself_is_empty(self):
        for form in byhand.some_forms(6, 40, 4):
            self.assertEqual(less(form, form), [])

    def test_worths(self):
        forms = byhand.some_forms(4, 40, 5)
        for one, other in zip(forms, forms[::-1]):
            pairs = list(zip(byhand.table(one, 4), byhand.table(other, 4)))
            self.assert_form(plus(one, other), [left + right for left, right in pairs])
            self.assert_form(less(one, other), [left - right for left, right in pairs])


class Product(FormCase):
    def test_unknowns_in_common_come_once(self):
        self.assertEqual(times([(1, 2)], [(1, 3)]), [(1, 6)])
        self.assertEqual(times([(3, 2)], [(6, 5)]), [(7, 10)])
        self.assertEqual(times([(TOP + 1, -1)], [(TOP + 2, BIG)]), [(TOP + 3, -BIG)])

    def test_sets_apart(self):
        self.assertEqual(times([(1, 2), (2, 3)], [(4, 5), (8, -1)]), [(5, 10), (6, 15), (9, -2), (10, -3)])

    def test_what_comes_to_0_is_left_out(self):
        self.assertEqual(times([(1, 1)], [(0, 1), (1, -1)]), [])
        self.assertEqual(times([(0, 1), (1, -1)], [(0, 1), (1, -1)]), [(0, 1), (1, -1)])
        self.assertEqual(times([(1, 1), (2, -1)], [(1, 1), (2, 1)]), [(1, 1), (2, -1)])

    def test_with_the_empty_form_and_the_set_0(self):
        form = [(0, -1), (5, 3), (TOP, BIG)]
        self.assertEqual(times(form, []), [])
        self.assertEqual(times([], form), [])
        self.assertEqual(times(form, [(0, 1)]), form)
        self.assertEqual(times([(0, -2)], form), [(0, 2), (5, -6), (TOP, -2 * BIG)])

    def test_numbers_of_sixty_figures(self):
        self.assertEqual(times([(1, BIG)], [(2, -BIG)]), [(3, -BIG * BIG)])

    def test_forms_of_300_tuples(self):
        low = [(members, 1) for members in range(300)]
        high = [(members * 512, -1) for members in range(300)]
        told = times(low, high)
        self.assertEqual(len(told), 90000)
        self.assertIsNone(byhand.fault(told))

    def test_worths(self):
        forms = byhand.some_forms(4, 60, 6)
        for one, other in zip(forms, forms[1:] + forms[:1]):
            pairs = zip(byhand.table(one, 4), byhand.table(other, 4))
            self.assert_form(times(one, other), [left * right for left, right in pairs])


class Scaled(FormCase):
    def test_so_many_times(self):
        form = [(0, 2), (3, -1), (TOP, BIG)]
        self.assertEqual(scaled(form, 3), [(0, 6), (3, -3), (TOP, 3 * BIG)])
        self.assertEqual(scaled(form, -1), [(0, -2), (3, 1), (TOP, -BIG)])
        self.assertEqual(scaled(form, 1), form)
        self.assertEqual(scaled(form, BIG), [(0, 2 * BIG), (3, -BIG), (TOP, BIG * BIG)])

    def test_0_times_is_the_empty_form(self):
        self.assertEqual(scaled([(0, 2), (3, -1)], 0), [])

    def test_the_empty_form(self):
        self.assertEqual(scaled([], 5), [])
        self.assertEqual(scaled([], 0), [])

    def test_worths(self):
        for form in byhand.some_forms(4, 30, 7):
            for number in (-BIG, -2, 0, 1, 9):
                self.assert_form(scaled(form, number), [number * each for each in byhand.table(form, 4)])


class Worth(unittest.TestCase):
    def test_all_unknowns_of_a_set_must_have_the_bit_1(self):
        form = [(0, 1), (1, 10), (3, 100), (4, -1000)]
        self.assertEqual([worth(form, given) for given in range(8)], [1, 11, 1, 111, -999, -989, -999, -889])

    def test_empty_form_and_set_0(self):
        for given in (0, 1, 2 ** 60 - 1):
            self.assertEqual(worth([], given), 0)
            self.assertEqual(worth([(0, -BIG)], given), -BIG)

    def test_unknown_59(self):
        form = [(1, 5), (TOP, BIG), (TOP + 1, -1)]
        self.assertEqual(worth(form, TOP), BIG)
        self.assertEqual(worth(form, TOP - 1), 5)
        self.assertEqual(worth(form, 2 ** 60 - 1), BIG + 4)

    def test_as_by_hand(self):
        for form in byhand.some_forms(60, 60, 8):
            for given in (0, 1, TOP, 2 ** 60 - 1, 0x5A5A5A5A5A5A5A5, 2 ** 60 - 2):
                self.assertEqual(worth(form, given), byhand.worth(form, given))

    def test_forms_alike_just_where_the_worths_are(self):
        tables = {}
        for some in byhand.some_lists(2, 300, 9):
            form = made(some)
            told = tuple(worth(form, given) for given in range(4))
            self.assertEqual(tables.setdefault(told, form), form)
        self.assertEqual(len({str(form) for form in tables.values()}), len(tables))


class Unknowns(unittest.TestCase):
    def test_all_sets_together(self):
        self.assertEqual(unknowns([(0, 1), (5, -2), (6, 3)]), 7)
        self.assertEqual(unknowns([(1, 1), (TOP, BIG)]), TOP + 1)

    def test_none(self):
        self.assertEqual(unknowns([]), 0)
        self.assertEqual(unknowns([(0, 9)]), 0)

    def test_an_unknown_that_the_worths_hang_on_at_some_givens_alone(self):
        self.assertEqual(unknowns([(3, 1)]), 3)


class IsForm(unittest.TestCase):
    def test_forms(self):
        for some in ([], [(0, 1)], [(0, -BIG), (1, BIG)], [(1, -1), (2, 1), (TOP, 3)], [(2 ** 60 - 1, 1)]):
            self.assertIs(is_form(some), True, some)
        for form in byhand.some_forms(60, 40, 10):
            self.assertIs(is_form(form), True, form)

    def test_a_set_of_any_size(self):
        self.assertIs(is_form([(2 ** 60, 1)]), True)
        self.assertIs(is_form([(1, 1), (2 ** 60 + 5, 1), (2 ** 500, -1)]), True)

    def test_any_number_of_tuples(self):
        self.assertIs(is_form([(members, -1) for members in range(1000)]), True)

    def test_a_set_below_0(self):
        self.assertIs(is_form([(-1, 1)]), False)
        self.assertIs(is_form([(-2, 1)]), False)
        self.assertIs(is_form([(-BIG, 1), (0, 1)]), False)
        self.assertIs(is_form([(-2, 1), (-1, 1), (3, 1)]), False)
        self.assertIs(is_form([(3, 1), (-1, 1)]), False)

    def test_a_set_twice(self):
        self.assertIs(is_form([(0, 1), (0, 1)]), False)
        self.assertIs(is_form([(1, 1), (4, 2), (4, -2)]), False)

    def test_sets_that_fall(self):
        self.assertIs(is_form([(2, 1), (1, 1)]), False)
        self.assertIs(is_form([(1, 1), (2, 1), (0, 1)]), False)
        self.assertIs(is_form([(1, 1), (5, 1), (3, 1), (7, 1)]), False)

    def test_a_number_0(self):
        self.assertIs(is_form([(0, 0)]), False)
        self.assertIs(is_form([(1, 1), (2, 0), (3, 1)]), False)
        self.assertIs(is_form([(1, 1), (2, 0)]), False)

    def test_as_by_hand(self):
        for some in byhand.some_lists(3, 300, 11):
            self.assertIs(is_form(some), byhand.fault(some) is None, some)
            self.assertIs(is_form(made(some)), True, some)


if __name__ == "__main__":
    unittest.main()
