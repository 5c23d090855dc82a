"""Points 20 and 21: forms that pull together, and products that show that no worth is less than a number."""

import random
import unittest

import byhand
from byhand import BIG
from onceform import errors
from onceform.pulls import products_show, pulled


def members_of(members):
    return [k for k in range(members.bit_length()) if byhand.bit(members, k) == 1]


def union(form):
    together = 0
    for members, number in form:
        together |= members
    return together


def some_products(source, unknowns, count):
    """Products over the unknowns, some of them with the NUMBER 0 and some with like sets."""
    told = []
    while len(told) < count:
        taken = source.sample(unknowns, source.randint(0, min(len(unknowns), 6)))
        split = source.randint(0, len(taken))
        made = (sum(2 ** k for k in taken[:split]), sum(2 ** k for k in taken[split:]))
        told += [(source.choice((0, 1, 2, BIG)),) + made for turn in range(source.choice((1, 1, 2)))]
    return told


def form_with(number, products, unknowns):
    """The form that a number and products over a few unknowns come to, made of its worths."""
    places = sorted(unknowns)
    worths = []
    for row in range(2 ** len(places)):
        given = sum(2 ** k for place, k in enumerate(places) if byhand.bit(row, place) == 1)
        worths.append(number + sum(byhand.product_worth(each, given) for each in products))
    return sorted((sum(2 ** places[k] for k in members_of(members)), its) for members, its in byhand.form_from(worths))


class Pulled(unittest.TestCase):
    def agree(self, form, many):
        """Looks at all that is promised of a form's tuple, the worths at all GIVENs of so many unknowns too."""
        told = pulled(form)
        self.assertIs(type(told), tuple)
        number, given, products = told
        self.assertEqual((type(number), type(given), type(products)), (int, int, list))
        self.assertEqual(byhand.worth(form, given), number)
        together = union(form)
        self.assertEqual(given & ~together, 0)
        self.assertGreaterEqual(given, 0)
        for each in products:
            self.assertIs(type(each), tuple)
            its, members, turned = each
            self.assertGreater(its, 0)
            self.assertTrue(members >= 0 and turned >= 0 and members & turned == 0)
            self.assertEqual((members | turned) & ~together, 0)
            self.assertLessEqual(len(members_of(members | turned)), 2)
        self.assertIs(products_show(form, number, products), True)
        self.assertIs(products_show(form, number + 1, products), False)
        self.assertIs(products_show(form, number - 1, products), False)
        for other in range(2 ** many):
            wanted = byhand.worth(form, other)
            self.assertGreaterEqual(wanted, number)
            self.assertEqual(number + sum(byhand.product_worth(each, other) for each in products), wanted)

    def test_no_unknowns(self):
        self.assertEqual(pulled([]), (0, 0, []))
        for number in (1, -1, BIG, -BIG):
            self.assertEqual(pulled([(0, number)]), (number, 0, []))

    def test_one_unknown(self):
        for k in (0, 7, 15):
            self.assertEqual(pulled([(2 ** k, 5)]), (0, 0, [(5, 2 ** k, 0)]))
            self.assertEqual(pulled([(2 ** k, -5)]), (-5, 2 ** k, [(5, 0, 2 ** k)]))
            self.assertEqual(pulled([(0, BIG), (2 ** k, -5)]), (BIG - 5, 2 ** k, [(5, 0, 2 ** k)]))

    def test_one_pair(self):
        for one in range(-3, 4):
            for other in range(-3, 4):
                for pair in (-1, -2, -5):
                    form = [(1, one), (2, other), (3, pair)]
                    self.agree([entry for entry in form if entry[1] != 0], 2)

    def test_a_pair_that_pulls_both_down(self):
        number, given, products = pulled([(1, 2), (2, 1), (3, -5)])
        self.assertEqual((number, given), (-2, 3))
        number, given, products = pulled([(1, 2), (2, 4), (3, -5)])
        self.assertEqual((number, given), (0, 0))

    def test_forms_of_few_unknowns(self):
        for many in range(1, 9):
            for form in byhand.some_pulling(many, 40 if many < 7 else 10, 900 + many):
                self.agree(form, many)

    def test_unknowns_far_apart(self):
        for form in byhand.some_pulling(3, 30, 920):
            places = (2, 9, 15)
            moved = sorted((sum(2 ** places[k] for k in members_of(members)), its) for members, its in form)
            self.agree(moved, 0)
            self.assertEqual(pulled(moved)[0], min(byhand.table(form, 3)))

    def test_a_row_of_pairs(self):
        # Each unknown but the first costs, and only all together are worth it.
        form = [(0, 3), (1, -1), (2, 2), (3, -2), (4, 2), (6, -2), (8, 2), (12, -2), (16, 2), (24, -2)]
        form += [(32, 2), (48, -3)]
        self.agree(form, 6)
        self.assertEqual(pulled(form)[:2], (1, 63))

    def test_sixteen_unknowns(self):
        for place, form in enumerate(byhand.some_pulling(16, 25, 921)):
            self.agree(form, 0)
            number, given, products = pulled(form)
            source = random.Random(place)
            for other in [0, 2 ** 16 - 1] + [source.randrange(2 ** 16) for turn in range(20)]:
                wanted = byhand.worth(form, other)
                self.assertGreaterEqual(wanted, number)
                self.assertEqual(number + sum(byhand.product_worth(each, other) for each in products), wanted)

    def test_each_number_of_unknowns_to_sixteen(self):
        for many in range(9, 17):
            for form in byhand.some_pulling(many, 5, 930 + many):
                self.agree(form, 0)

    def test_forms_that_do_not_pull_together(self):
        refused = (
            [(3, 1)], [(3, BIG)], [(7, -1)], [(7, 1)], [(2 ** 16 - 1, -5)], [(0, 1), (1, -1), (2, -1), (3, 2)],
            [(3, -1), (5, -1), (6, 1)], [(3, -1), (5, -1), (6, -1), (7, -1)], [(2 ** 15 + 1, 1)], [(1, 1), (13, -2)])
        for form in refused:
            with self.subTest(form=form), self.assertRaises(errors.NoPull) as taken:
                pulled(form)
            self.assertIs(type(taken.exception), errors.NoPull)

    def test_one_tuple_too_many(self):
        for form in byhand.some_pulling(5, 20, 922):
            for entry in ((2 ** 5 + 1, 1), (2 ** 5 + 3, -1), (2 ** 15 + 2 ** 14, 1)):
                with self.assertRaises(errors.NoPull):
                    pulled(form + [entry])

    def test_the_refusal_is_of_no_other_class(self):
        try:
            pulled([(3, 1)])
        except (errors.NoStatement, errors.NoForm, errors.NoLine, errors.NoName, errors.NoYesNo, errors.TooMany):
            self.fail("another refusal's class")
        except errors.FormError as refusal:
            self.assertIsInstance(refusal, errors.NoPull)
        else:
            self.fail("not refused")


class ProductsShow(unittest.TestCase):
    def test_no_products(self):
        self.assertIs(products_show([], 0, []), True)
        self.assertIs(products_show([], 1, []), False)
        self.assertIs(products_show([], -1, []), False)
        self.assertIs(products_show([(0, -BIG)], -BIG, []), True)
        self.assertIs(products_show([(1, 1)], 0, []), False)

    def test_one_product(self):
        self.assertIs(products_show([(3, 5)], 0, [(5, 3, 0)]), True)
        self.assertIs(products_show([(0, 5), (1, -5)], 0, [(5, 0, 1)]), True)
        self.assertIs(products_show([(1, 5), (3, -5)], 0, [(5, 1, 2)]), True)
        self.assertIs(products_show([(1, 5), (3, -5)], 0, [(5, 2, 1)]), False)
        self.assertIs(products_show([(1, 5), (3, -5)], 0, [(4, 1, 2)]), False)
        self.assertIs(products_show([(0, 1), (1, -1), (2, -1), (3, 1)], 0, [(1, 0, 3)]), True)
        self.assertIs(products_show([(0, 8)], 3, [(5, 0, 0)]), True)

    def test_numbers_below_nought(self):
        self.assertIs(products_show([(1, -5)], 0, [(-5, 1, 0)]), False)
        self.assertIs(products_show([(0, -5)], 0, [(-5, 0, 0)]), False)
        self.assertIs(products_show([], 0, [(5, 1, 0), (-5, 1, 0)]), False)
        self.assertIs(products_show([(1, -5)], -5, [(5, 0, 1)]), True)

    def test_sets_below_nought(self):
        for members, turned in ((-1, 0), (0, -1), (-2, 1), (1, -2), (-4, 3), (-1, -1), (-2 ** 70, 0), (0, -2 ** 70)):
            self.assertIs(products_show([], 0, [(0, members, turned)]), False)
            self.assertIs(products_show([(0, 1)], 1, [(0, members, turned)]), False)
            self.assertIs(products_show([(1, 1)], 0, [(1, members, turned), (1, 1, 0)]), False)
            self.assertIs(products_show([(members, 1)], 0, [(1, members, turned)]), False)

    def test_sets_with_something_in_common(self):
        # Such a product would always be worth 0, and yet it is none.
        for members, turned in ((1, 1), (3, 2), (4, 7), (2 ** 70 + 1, 2 ** 70), (2 ** 900, 2 ** 900)):
            for number in (0, 1, BIG):
                self.assertIs(products_show([], 0, [(number, members, turned)]), False)
                self.assertIs(products_show([(8, 2)], 0, [(2, 8, 0), (number, members, turned)]), False)

    def test_the_number_nought(self):
        self.assertIs(products_show([(1, 2)], 0, [(0, 5, 2), (2, 1, 0), (0, 0, 255)]), True)
        self.assertIs(products_show([], -1, [(0, 1, 0)]), False)

    def test_very_great_sets(self):
        great, other = 2 ** 1000, 2 ** 3000 + 2 ** 64
        self.assertIs(products_show([], 0, [(1, great, 0)]), False)
        self.assertIs(products_show([], -1, [(1, great, 0), (1, 0, great)]), True)
        self.assertIs(products_show([], 0, [(1, great, 0), (1, 0, great)]), False)
        self.assertIs(products_show([(1, 3)], 0, [(3, 1, great), (3, great + 1, 0)]), True)
        self.assertIs(products_show([(1, 3)], 0, [(3, 1, great), (3, great, 0)]), False)
        self.assertIs(products_show([(1, 3)], 0, [(3, 1, great), (2, great + 1, 0)]), False)
        self.assertIs(products_show([(1, 2)], 0, [(2, 1 + great, other), (2, 1 + great, 0), (2, 1, great)]), False)
        self.assertIs(products_show([(1, 2)], 0, [
            (2, 1, other), (2, 1 + other, 0), (2, 1 + 2 ** 64, 2 ** 3000), (2, 1 + 2 ** 3000, 2 ** 64)]), True)

    def test_the_same_set_in_several_tuples(self):
        self.assertIs(products_show([(3, 5)], 0, [(2, 3, 0), (3, 3, 0)]), True)
        self.assertIs(products_show([(3, 5)], 0, [(3, 3, 0), (3, 3, 0)]), False)
        self.assertIs(products_show([(0, 4), (2, -4)], 0, [(1, 0, 2)] * 4), True)
        self.assertIs(products_show([(0, 4), (2, -4)], 0, [(1, 0, 2)] * 3), False)

    def test_unknowns_that_the_form_has_not(self):
        self.assertIs(products_show([(1, 1)], 0, [(1, 5, 0), (1, 1, 4)]), True)
        self.assertIs(products_show([(1, 1)], 0, [(1, 5, 0), (1, 1, 8)]), False)
        self.assertIs(products_show([(0, 1)], 0, [(1, 4, 0), (1, 0, 4)]), True)

    def test_products_that_come_to_the_form(self):
        source = random.Random(940)
        for turn in range(120):
            unknowns = source.sample((0, 1, 2, 5, 30, 59, 200), source.randint(1, 6))
            products = some_products(source, unknowns, source.choice((1, 3, 8, 30)))[:40]
            number = source.choice((0, 1, -1, BIG, -BIG))
            form = form_with(number, products, unknowns)
            self.assertIs(products_show(form, number, products), True)
            self.assertIs(products_show(form, number, products[::-1]), True)
            self.assertIs(products_show(form, number + 1, products), False)
            self.assertIs(products_show(form, number - 1, products), False)
            self.assertIs(products_show(form + [(2 ** 201, 1)], number, products), False)
            for place, (its, members, turned) in enumerate(products):
                others = products[:place] + products[place + 1:]
                self.assertIs(products_show(form, number, others), its == 0)
                self.assertIs(products_show(form, number, others + [(its + 1, members, turned)]), False)
                alike = its == 0 or members == turned
                self.assertIs(products_show(form, number, others + [(its, turned, members)]), alike)
                self.assertIs(products_show(form, number, others + [(-its, members, turned)]), its == 0)

    def test_eight_unknowns_turned(self):
        turned = 2 ** 8 - 1
        form = [(members, (-1) ** bin(members).count("1")) for members in range(2 ** 8)]
        self.assertIs(products_show(form, 0, [(1, 0, turned)]), True)
        self.assertIs(products_show(form[:-1], 0, [(1, 0, turned)]), False)
        self.assertIs(products_show(form, 0, [(1, 2 ** 8, turned)]), False)
        whole = [(members + 2 ** 50, 40 * its) for members, its in form]
        self.assertIs(products_show(whole, 0, [(1, 2 ** 50, turned)] * 40), True)


if __name__ == "__main__":
    unittest.main()
