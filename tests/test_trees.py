"""Point 13: the GIVENs of worth 1, and choice trees."""

import itertools
import random
import unittest

import byhand
from onceform.trees import all_ways, form_of_tree, tree_of, ways


class Ways(unittest.TestCase):
    def test_a_few(self):
        either = [(1, 1), (2, 1), (3, -1)]
        self.assertEqual(ways(either, 2), 3)
        self.assertEqual(all_ways(either, 2), [1, 2, 3])
        self.assertEqual(ways(either, 3), 6)
        self.assertEqual(all_ways(either, 3), [1, 2, 3, 5, 6, 7])
        self.assertEqual(all_ways([(0, 1), (1, -1)], 2), [0, 2])

    def test_many_0(self):
        self.assertEqual(ways([], 0), 0)
        self.assertEqual(all_ways([], 0), [])
        self.assertEqual(ways([(0, 1)], 0), 1)
        self.assertEqual(all_ways([(0, 1)], 0), [0])

    def test_always_0_and_always_1(self):
        self.assertEqual(ways([], 10), 0)
        self.assertEqual(all_ways([], 10), [])
        self.assertEqual(ways([(0, 1)], 10), 1024)
        self.assertEqual(all_ways([(0, 1)], 10), list(range(1024)))

    def test_as_by_hand(self):
        for many in range(6):
            for form in byhand.some_yes_no(many, 20, 301 + many):
                for more in range(max(1, many), 7):
                    wanted = [given for given, told in enumerate(byhand.table(form, more)) if told == 1]
                    self.assertEqual(all_ways(form, more), wanted)
                    self.assertEqual(ways(form, more), len(wanted))

    def test_many_10_as_by_hand(self):
        for form in byhand.some_yes_no(8, 6, 310) + [[(1023, 1)], [(512, 1)], [(0, 1), (513, -1)]]:
            wanted = [given for given, told in enumerate(byhand.table(form, 10)) if told == 1]
            self.assertEqual(all_ways(form, 10), wanted)
            self.assertEqual(ways(form, 10), len(wanted))


class TreeOf(unittest.TestCase):
    def fault(self, tree, last=-1):
        """What keeps a value from being a plain choice tree, or None."""
        if type(tree) is int:
            return None if tree in (0, 1) else "no bit"
        if type(tree) is not tuple or len(tree) != 3 or type(tree[0]) is not int:
            return "no tuple of a number and two trees"
        if tree[0] <= last:
            return "the unknowns do not rise"
        if tree[1] == tree[2]:
            return "two like trees"
        return self.fault(tree[1], tree[0]) or self.fault(tree[2], tree[0])

    def test_a_few(self):
        self.assertEqual(tree_of([]), 0)
        self.assertEqual(tree_of([(0, 1)]), 1)
        self.assertEqual(tree_of([(1, 1)]), (0, 1, 0))
        self.assertEqual(tree_of([(0, 1), (8, -1)]), (3, 0, 1))
        self.assertEqual(tree_of([(3, 1)]), (0, (1, 1, 0), 0))
        self.assertEqual(tree_of([(1, 1), (2, 1), (3, -1)]), (0, 1, (1, 1, 0)))
        self.assertEqual(tree_of([(1, 1), (2, 1), (3, -2)]), (0, (1, 0, 1), (1, 1, 0)))
        self.assertEqual(tree_of([(3, 1), (4, 1), (5, -1)]), (0, (1, 1, 0), (2, 1, 0)))

    def test_plain_and_with_the_worths_of_the_form(self):
        for many in range(6):
            for form in byhand.some_yes_no(many, 25, 320 + many):
                tree = tree_of(form)
                self.assertIsNone(self.fault(tree), tree)
                told = [byhand.tree_bit(tree, given) for given in range(2 ** max(1, many))]
                self.assertEqual(told, byhand.table(form, max(1, many)))

    def test_ten_unknowns(self):
        for form in byhand.some_yes_no(8, 6, 330)[4:] + [[(1023, 1)], [(512, 1)], [(0, 1), (513, -1)]]:
            tree = tree_of(form)
            self.assertIsNone(self.fault(tree))
            self.assertEqual([byhand.tree_bit(tree, given) for given in range(1024)], byhand.table(form, 10))

    def test_there_and_back(self):
        for form in byhand.some_yes_no(6, 30, 331):
            self.assertEqual(form_of_tree(tree_of(form)), form)


class FormOfTree(unittest.TestCase):
    def assert_form(self, tree, many):
        form = form_of_tree(tree)
        self.assertIsNone(byhand.fault(form), form)
        self.assertEqual(byhand.table(form, many), [byhand.tree_bit(tree, given) for given in range(2 ** many)], tree)

    def test_a_few(self):
        self.assertEqual(form_of_tree(0), [])
        self.assertEqual(form_of_tree(1), [(0, 1)])
        self.assertEqual(form_of_tree((0, 1, 0)), [(1, 1)])
        self.assertEqual(form_of_tree((59, 0, 1)), [(0, 1), (2 ** 59, -1)])
        self.assertEqual(form_of_tree((1, (0, 1, 0), 0)), [(3, 1)])
        self.assertEqual(form_of_tree((2, (0, 1, 0), (1, 1, 0))), [(2, 1), (5, 1), (6, -1)])

    def test_two_like_trees(self):
        self.assertEqual(form_of_tree((4, 1, 1)), [(0, 1)])
        self.assertEqual(form_of_tree((4, 0, 0)), [])
        self.assertEqual(form_of_tree((4, (0, 1, 0), (0, 1, 0))), [(1, 1)])

    def test_an_unknown_twice_on_a_way(self):
        self.assertEqual(form_of_tree((0, (0, 1, 0), 0)), [(1, 1)])
        self.assertEqual(form_of_tree((0, (0, 0, 1), 1)), [(0, 1), (1, -1)])
        self.assertEqual(form_of_tree((0, 1, (0, 1, 0))), [(1, 1)])
        self.assertEqual(form_of_tree((0, (1, (0, 1, 0), (0, 0, 1)), (1, (0, 1, 0), (0, 0, 1)))),
                         form_of_tree((0, (1, 1, 0), (1, 0, 1))))

    def test_trees_of_few_unknowns_in_any_order(self):
        source = random.Random(340)
        for turn in range(200):
            self.assert_form(byhand.a_tree(source, source.randrange(1, 20), range(4)), 4)
        for turn in range(20):
            self.assert_form(byhand.a_tree(source, source.randrange(20, 60), range(6)), 6)

    def test_up_to_300_tuples_20_deep_and_unknowns_up_to_59(self):
        source = random.Random(341)
        tried = 0
        while tried < 6:
            unknowns = source.sample(range(60), 7) + [59]
            tree = byhand.a_tree(source, source.randrange(200, 301), unknowns)
            if byhand.tree_depth(tree) > 20:
                continue
            tried += 1
            form = form_of_tree(tree)
            self.assertIsNone(byhand.fault(form))
            for choice in range(2 ** 8):
                given = sum({2 ** k for place, k in enumerate(unknowns) if byhand.bit(choice, place) == 1})
                self.assertEqual(byhand.worth(form, given), byhand.tree_bit(tree, given))

    def test_20_deep_by_ones(self):
        tree = 1
        for k in range(20):
            tree = (k * 3, tree, 0)
        self.assertEqual(form_of_tree(tree), [(sum(2 ** (k * 3) for k in range(20)), 1)])

    def test_20_deep_by_others(self):
        tree = 0
        for k in (7, 3, 59, 12) * 5:
            tree = (k, 1, tree)
        sets = [sum(chosen) for chosen in itertools.product((0, 2 ** 3), (0, 2 ** 7), (0, 2 ** 12), (0, 2 ** 59))]
        wanted = [(members, -(-1) ** bin(members).count("1")) for members in sorted(sets) if members != 0]
        self.assertEqual(form_of_tree(tree), wanted)

    def test_20_deep_by_others_and_no_unknown_twice(self):
        tree = 0
        for k in range(20):
            tree = (k, 1, tree)
        form = form_of_tree(tree)
        self.assertEqual(len(form), 2 ** 20 - 1)
        self.assertEqual(form[:7], [(1, 1), (2, 1), (3, -1), (4, 1), (5, -1), (6, -1), (7, 1)])
        self.assertEqual(form[-1], (2 ** 20 - 1, -1))

    def test_what_no_way_leads_to_is_not_gone_through(self):
        left_out = 0
        for k in range(18):
            left_out = (k, 1, left_out)
        tree = (30, (31, (30, 1, left_out), (30, 0, left_out)), (31, 0, (30, left_out, 1)))
        self.assertEqual(form_of_tree(tree), form_of_tree((30, (31, 1, 0), (31, 0, 1))))


if __name__ == "__main__":
    unittest.main()
