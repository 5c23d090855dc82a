"""Point 22: a hidden form is found by few asks."""

import copy
import itertools
import random
import unittest

import byhand
from onceform.asks import next_step


class Asks(unittest.TestCase):
    def assert_found(self, hidden, many, terms):
        """Asks from the empty dict on and looks at each step; tells how many asks it took."""
        told = {}
        for turn in range(2 ** many + 1):
            ahead = list(told.items())
            step = next_step(told, many, terms)
            self.assertEqual(list(told.items()), ahead)
            self.assertIs(type(step), tuple)
            self.assertEqual(len(step), 2)
            if step[0] != "ask":
                break
            self.assert_new_given(step[1], told, many)
            told[step[1]] = byhand.worth(hidden, step[1])
        self.assertEqual(step[0], "form", (hidden, many, terms))
        self.assertIsNone(byhand.fault(step[1]), step)
        self.assertEqual(step[1], hidden)
        self.assertLessEqual(len(told), byhand.most_asks(many, terms), (hidden, many, terms))
        return len(told)

    def assert_new_given(self, given, told, many):
        self.assertIs(type(given), int)
        self.assertTrue(0 <= given < 2 ** many, given)
        self.assertNotIn(given, told)

    def test_all_small_forms(self):
        for many in range(3):
            for numbers in itertools.product((0, 1, -1, 2), repeat=2 ** many):
                hidden = [(members, number) for members, number in enumerate(numbers) if number != 0]
                for terms in range(len(hidden), 6):
                    self.assert_found(hidden, many, terms)

    def test_all_forms_of_three_unknowns_with_small_numbers(self):
        for numbers in itertools.product((0, 1, -1), repeat=8):
            hidden = [(members, number) for members, number in enumerate(numbers) if number != 0]
            self.assert_found(hidden, 3, len(hidden))

    def test_no_terms(self):
        for many in range(11):
            self.assert_found([], many, 0)

    def test_the_empty_form_with_each_number_of_terms(self):
        for many in range(11):
            for terms in range(17):
                self.assert_found([], many, terms)

    def test_one_tuple_each(self):
        for many in range(8):
            for members in range(2 ** many):
                for terms in (1, 2, 3):
                    self.assert_found([(members, -5)], many, terms)
        for members in (0, 1, 512, 1023, 341, 1022):
            for terms in range(1, 17):
                self.assert_found([(members, byhand.BIG)], 10, terms)

    def test_two_tuples_where_the_bound_is_below_the_number_of_all_givens(self):
        source = random.Random(2201)
        for many in (8, 9, 10):
            for terms in (2, 3):
                self.assertLessEqual(byhand.most_asks(many, terms), 2 ** many + 100)
                for turn in range(25):
                    first, second = sorted(source.sample(range(2 ** many), 2))
                    # Two NUMBERs that add up to 0, so that most GIVENs tell nothing.
                    self.assert_found([(first, 3), (second, -3)], many, terms)
                    self.assert_found([(first & second, -1), (second, 1)], many, terms)

    def test_some_forms_of_all_sizes(self):
        source = random.Random(2202)
        for many in range(11):
            for terms in range(17):
                counts = {0, min(terms, 2 ** many), source.randrange(min(terms, 2 ** many) + 1)}
                for count in counts:
                    sets = sorted(source.sample(range(2 ** many), count))
                    numbers = source.choice(((1, -1), (1, -1, 2, -3), (byhand.BIG, -byhand.BIG, 1)))
                    self.assert_found([(members, source.choice(numbers)) for members in sets], many, terms)

    def test_numbers_that_add_up_to_nought_at_many_givens(self):
        source = random.Random(2203)
        for many in range(1, 11):
            for level in range(min(many, 4) + 1):
                turned = source.sample(range(many), level)
                ones = source.randrange(2 ** many)
                for k in turned:
                    ones = byhand.with_bit(ones, k, 0)
                hidden = byhand.cancelling(ones, turned, source.choice((1, -7)))
                for terms in {2 ** level, min(2 ** (level + 1) - 1, 16), 16}:
                    self.assert_found(hidden, many, terms)

    def test_two_cancelling_forms_at_once(self):
        source = random.Random(2204)
        for turn in range(20):
            many = source.randrange(4, 11)
            halves = [byhand.cancelling(0, source.sample(range(many), 3), number) for number in (4, -1)]
            sums = {}
            for members, number in halves[0] + halves[1]:
                sums[members] = sums.get(members, 0) + number
            hidden = sorted((members, number) for members, number in sums.items() if number != 0)
            self.assert_found(hidden, many, len(hidden))
            self.assert_found(hidden, many, 16)

    def test_a_worth_of_nought_is_a_told_worth(self):
        told = {1: 0}
        self.assertEqual(next_step({0: 0, 1: 0}, 1, 2), ("form", []))
        self.assertEqual(next_step(told, 1, 2), ("ask", 0))
        self.assertEqual(next_step({0: 7}, 0, 1), ("form", [(0, 7)]))

    def test_steps_for_worths_that_were_told_in_another_order(self):
        source = random.Random(2205)
        for turn in range(60):
            many, terms = source.randrange(6), source.randrange(17)
            count = min(terms, 2 ** many, source.randrange(8))
            sets = sorted(source.sample(range(2 ** many), count))
            hidden = [(members, source.choice((1, -1, 6))) for members in sets]
            known = source.sample(range(2 ** many), source.randrange(2 ** many + 1))
            told = {given: byhand.worth(hidden, given) for given in known}
            while True:
                step = next_step(dict(told), many, terms)
                backwards = dict(reversed(list(told.items())))
                self.assertEqual(next_step(backwards, many, terms), step)
                if step[0] == "form":
                    break
                self.assert_new_given(step[1], told, many)
                told[step[1]] = byhand.worth(hidden, step[1])
            self.assertEqual(step, ("form", hidden))

    def test_all_worths_told(self):
        for hidden in byhand.some_forms(4, 20, 2206):
            told = dict(enumerate(byhand.table(hidden, 4)))
            self.assertEqual(next_step(told, 4, 16), ("form", hidden))

    def test_a_told_form_is_the_askers_own(self):
        told = {0: 1, 1: 3}
        first = next_step(told, 1, 2)
        self.assertEqual(first, ("form", [(0, 1), (1, 2)]))
        wanted = copy.deepcopy(first)
        first[1].append((9, 9))
        self.assertEqual(next_step(told, 1, 2), wanted)
        self.assertEqual(told, {0: 1, 1: 3})
        told[1] = 1
        self.assertEqual(next_step(told, 1, 2), ("form", [(0, 1)]))
        self.assertEqual(wanted, ("form", [(0, 1), (1, 2)]))

    def test_two_searches_beside_one_another(self):
        hidden = ([(1, 2), (5, -2)], [(0, 1), (6, 9), (7, -9)])
        told = [{}, {}]
        ended = {}
        while len(ended) < 2:
            for place in (0, 1):
                step = next_step(told[place], 3, 3)
                if step[0] == "form":
                    ended[place] = step[1]
                else:
                    told[place][step[1]] = byhand.worth(hidden[place], step[1])
        self.assertEqual([ended[0], ended[1]], list(hidden))

    def test_somewhat_beyond_the_bounds(self):
        self.assertGreater(self.assert_found(byhand.cancelling(2048, range(4), 1) + [(4095, 1)], 12, 18), 18)


if __name__ == "__main__":
    unittest.main()
