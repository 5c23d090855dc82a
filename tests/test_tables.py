"""Point 7: tables, their forms, and sums of all worths."""

import unittest

import byhand
from byhand import BIG
from onceform.tables import form_of, table_of, whole_sum


class TableOf(unittest.TestCase):
    def test_worths_by_rising_givens(self):
        self.assertEqual(table_of([(0, 1), (1, 10), (3, 100)], 2), [1, 11, 1, 111])
        self.assertEqual(table_of([(4, -1)], 3), [0, 0, 0, 0, -1, -1, -1, -1])

    def test_many_0(self):
        self.assertEqual(table_of([], 0), [0])
        self.assertEqual(table_of([(0, -BIG)], 0), [-BIG])

    def test_the_empty_form(self):
        self.assertEqual(table_of([], 3), [0] * 8)

    def test_unknowns_that_the_form_has_not(self):
        self.assertEqual(table_of([(0, 7)], 2), [7, 7, 7, 7])
        self.assertEqual(table_of([(1, 7)], 2), [0, 7, 0, 7])

    def test_many_1_to_6_as_by_hand(self):
        for many in range(1, 7):
            for form in byhand.some_forms(many, 20, many):
                self.assertEqual(table_of(form, many), byhand.table(form, many))

    def test_many_10_as_by_hand(self):
        for form in byhand.some_forms(10, 8, 20):
            self.assertEqual(table_of(form, 10), byhand.table(form, 10))

    def test_nothing_is_refused_somewhat_beyond_the_bounds(self):
        told = table_of([(2 ** 11, 3)], 12)
        self.assertEqual(told, [0] * 2 ** 11 + [3] * 2 ** 11)
        self.assertEqual(table_of([(0, 1), (4, 5), (6, 7)], 2), [1, 1, 1, 1])


class FormOf(unittest.TestCase):
    def test_form_of_a_table(self):
        self.assertEqual(form_of([1, 11, 1, 111]), [(0, 1), (1, 10), (3, 100)])
        self.assertEqual(form_of([0, 1, 1, 0]), [(1, 1), (2, 1), (3, -2)])

    def test_many_0(self):
        self.assertEqual(form_of([0]), [])
        self.assertEqual(form_of([-BIG]), [(0, -BIG)])

    def test_noughts_alone(self):
        self.assertEqual(form_of([0] * 1024), [])

    def test_there_and_back_from_forms(self):
        for many in (0, 1, 2, 5, 10):
            for form in byhand.some_forms(many, 15, 30 + many):
                self.assertEqual(form_of(table_of(form, many)), form)

    def test_there_and_back_from_tables(self):
        for many in (0, 1, 2, 5, 10):
            table = [(given * given * 7919 + 13) % 31 - 15 + BIG * (given % 3 - 1) for given in range(2 ** many)]
            form = form_of(table)
            self.assertIsNone(byhand.fault(form))
            self.assertEqual(table_of(form, many), table)

    def test_the_worths_are_those_of_the_table(self):
        for some in byhand.some_lists(4, 40, 40):
            table = byhand.table(some, 4)
            form = form_of(table)
            self.assertIsNone(byhand.fault(form))
            self.assertEqual(byhand.table(form, 4), table)


class WholeSum(unittest.TestCase):
    def test_sum_of_all_worths(self):
        self.assertEqual(whole_sum([(0, 1), (1, 10), (3, 100)], 2), 124)
        self.assertEqual(whole_sum([(0, 1), (1, 10), (3, 100)], 3), 248)

    def test_many_0(self):
        self.assertEqual(whole_sum([], 0), 0)
        self.assertEqual(whole_sum([(0, -BIG)], 0), -BIG)

    def test_many_60(self):
        whole = 2 ** 60 - 1
        self.assertEqual(whole_sum([], 60), 0)
        self.assertEqual(whole_sum([(0, 1)], 60), 2 ** 60)
        self.assertEqual(whole_sum([(2 ** 59, 1)], 60), 2 ** 59)
        self.assertEqual(whole_sum([(whole, BIG)], 60), BIG)
        self.assertEqual(whole_sum([(0, -1), (5, 3), (2 ** 59 + 2, BIG), (whole, -4)], 60),
                         -2 ** 60 + 3 * 2 ** 58 + BIG * 2 ** 58 - 4)

    def test_as_by_hand(self):
        for many in range(8):
            for form in byhand.some_forms(many, 20, 50 + many):
                self.assertEqual(whole_sum(form, many), sum(byhand.table(form, many)))

    def test_many_10_as_by_hand(self):
        for form in byhand.some_forms(10, 8, 60):
            self.assertEqual(whole_sum(form, 10), sum(byhand.table(form, 10)))

    def test_sets_beyond_many_have_no_worth_there(self):
        self.assertEqual(whole_sum([(0, 1), (4, 5), (6, 7)], 2), 4)


if __name__ == "__main__":
    unittest.main()
