"""Point 4: nothing handed in is changed, and what is told is the asker's own."""

import copy
import unittest

from onceform.asks import next_step
from onceform.changes import fixed, is_yes_no, put_in, renamed, unlike, unlike_by
from onceform.claims import form_of_formula, judged, walks, worth_of
from onceform.forms import is_form, less, made, plus, scaled, times, unknowns, worth
from onceform.gates import bits_for, read_back, wire_forms
from onceform.least import floor, least, shows
from onceform.pulls import products_show, pulled
from onceform.statements import form_of_statement, read, shown
from onceform.tables import form_of, table_of, whole_sum
from onceform.text import form_read, form_shown
from onceform.trees import all_ways, form_of_tree, tree_of, ways

FORM = [(0, 2), (1, -3), (6, 10 ** 60)]
OTHER = [(1, 4), (2, 1)]
LOOSE = [(6, 1), (1, 0), (6, 2), (0, -5)]
ONE = [(0, 1)]
EITHER = [(1, 1), (2, 1), (3, -2)]
STATEMENT = ("and", ("not", ("bit", 0)), ("or", ("bit", 2), ("fix", 0)))
TREE = (3, (1, 1, 0), (1, (3, 1, 0), 1))
ROWS = [("not", 0), ("fix", 1), ("and", 0, 1), ("or", 2, 4), ("xor", 3, 5)]
FORMULA = ("less", ("times", ("word", [0, 1], True), ("word", [1, 1], False)), ("number", 4))
ADDING = [("xor", 0, 1), ("and", 0, 1)]
ADDED = ("plus", ("word", [0], False), ("word", [1], False))
STEPS = [[(1, -1), (2, -1), (4, 1), (8, 2)], [(1, -1), (2, -1), (3, 2), (4, 1)], []]
PULLING = [(0, 2), (1, 3), (2, 1), (3, -5), (5, -1)]

# Each call with what it is handed; a fresh copy of it is handed in each time.
CALLS = (
    (made, [LOOSE]), (made, [FORM]), (made, [[]]),
    (plus, [FORM, OTHER]), (plus, [FORM, []]), (plus, [[], FORM]), (plus, [[], []]),
    (less, [FORM, OTHER]), (less, [FORM, []]), (less, [[], FORM]),
    (times, [FORM, OTHER]), (times, [FORM, ONE]), (times, [ONE, FORM]), (times, [FORM, []]),
    (scaled, [FORM, 3]), (scaled, [FORM, 1]), (scaled, [FORM, 0]), (scaled, [[], 1]),
    (worth, [FORM, 7]), (unknowns, [FORM]), (is_form, [FORM]), (is_form, [LOOSE]),
    (table_of, [FORM, 3]), (table_of, [[(0, 5)], 0]), (table_of, [[], 0]),
    (form_of, [[1, 2, 3, 4]]), (form_of, [[5]]), (form_of, [[0]]),
    (whole_sum, [FORM, 3]), (whole_sum, [FORM, 60]),
    (fixed, [FORM, 1, 0]), (fixed, [FORM, 1, 1]), (fixed, [FORM, 9, 0]), (fixed, [FORM, 9, 1]), (fixed, [[], 0, 0]),
    (renamed, [FORM, [2, 1, 0]]), (renamed, [FORM, [0, 1, 2]]), (renamed, [FORM, [5, 5, 5]]), (renamed, [[], []]),
    (is_yes_no, [FORM]), (is_yes_no, [EITHER]),
    (put_in, [FORM, 1, EITHER]), (put_in, [FORM, 9, EITHER]), (put_in, [[(1, 1)], 0, EITHER]), (put_in, [FORM, 0, []]),
    (unlike, [FORM, OTHER]), (unlike, [FORM, FORM]), (unlike_by, [FORM, OTHER, 2]), (unlike_by, [FORM, OTHER, 1]),
    (form_of_statement, [STATEMENT]), (form_of_statement, [("bit", 3)]), (form_of_statement, [("fix", 1)]),
    (form_of_statement, [("fix", 0)]), (shown, [STATEMENT]), (read, ["not a and (c or 0)"]),
    (ways, [EITHER, 3]), (all_ways, [EITHER, 3]), (all_ways, [[], 0]), (tree_of, [EITHER]),
    (form_of_tree, [TREE]), (form_of_tree, [0]), (form_of_tree, [1]), (form_of_tree, [(0, (1, 1, 0), (1, 1, 0))]),
    (bits_for, [2, ROWS, 3]), (bits_for, [2, [], 1]), (bits_for, [0, [], 0]),
    (wire_forms, [2, ROWS]), (wire_forms, [2, []]), (wire_forms, [1, [("or", 0, 0), ("and", 1, 0)]]),
    (read_back, [2, ROWS, [(1, 1), (64, 5)]]), (read_back, [2, ROWS, [(1, 1)]]), (read_back, [2, [], FORM]),
    (form_of_formula, [FORMULA]), (form_of_formula, [("word", [1], False)]), (form_of_formula, [("number", 0)]),
    (worth_of, [FORMULA, 2]), (judged, [2, ADDING, ([2, 3], False, ADDED, 0)]),
    (judged, [2, ADDING, ([2], True, ADDED, 1)]), (judged, [2, ADDING, ([3, 2], False, ADDED, 0)]),
    (judged, [2, [], ([0, 1], True, ("word", [0, 1], True), 0)]),
    (judged, [0, [("fix", 0), ("fix", 0)], ([], False, ("number", 0), 0)]),
    (walks, [2, ADDING, ([2, 3], False, ADDED, 0), STEPS]), (walks, [2, ADDING, ([2, 3], False, ADDED, 0), STEPS[:1]]),
    (floor, [FORM]), (least, [FORM, 3]), (least, [EITHER, 2]), (least, [[], 0]),
    (shows, [EITHER, 0, (0, 0, (1, 0, 0))]), (shows, [EITHER, 1, (0, 0, (1, 0, 0))]),
    (pulled, [PULLING]), (pulled, [[]]), (pulled, [[(0, 3)]]), (pulled, [[(2, -1)]]),
    (products_show, [[(0, 4), (3, 1)], 1, [(1, 3, 0), (3, 0, 0)]]), (products_show, [[], 0, []]),
    (products_show, [[(0, 1), (1, -1)], 0, [(1, 0, 1)]]),
    (next_step, [{}, 3, 2]), (next_step, [{}, 0, 0]), (next_step, [{7: 0, 6: 0}, 3, 3]), (next_step, [{0: 5}, 0, 4]),
    (next_step, [{0: 1, 1: 3, 2: 1, 3: 4}, 2, 3]), (next_step, [{0: 0, 1: 0}, 1, 2]),
    (form_shown, [FORM]), (form_shown, [[]]), (form_read, ["0"]), (form_read, ["3 - 2ab + c"]), (form_read, ["-a"]),
)


def lists_in(told):
    """The lists and dicts that a told or handed value holds, itself among them, the inmost first."""
    if isinstance(told, dict):
        return lists_in(list(told.values()))[:-1] + [told]
    if not isinstance(told, (list, tuple)):
        return []
    inner = [each for entry in told for each in lists_in(entry)]
    return inner + [told] if isinstance(told, list) else inner


def spoil(told):
    """Changes each entry and the length of each list and dict that a value holds."""
    for each in lists_in(told):
        if isinstance(each, dict):
            spoilt = {key: 77 for key in each} | {len(each) + 1: 78}
            each.clear()
            each.update(spoilt)
        else:
            each[:] = ["spoilt"] * (len(each) + 1)


class Own(unittest.TestCase):
    def test_what_is_handed_in_stays_as_it_was(self):
        for call, things in CALLS:
            with self.subTest(call=call.__name__, things=things):
                given = copy.deepcopy(things)
                call(*given)
                self.assertEqual(given, things)

    def test_a_told_list_that_is_changed_changes_nothing_else(self):
        for call, things in CALLS:
            with self.subTest(call=call.__name__, things=things):
                given = copy.deepcopy(things)
                told = call(*given)
                wanted = copy.deepcopy(told)
                spoil(told)
                self.assertEqual(given, things)
                self.assertEqual(call(*given), wanted)
                self.assertEqual(call(*copy.deepcopy(things)), wanted)

    def test_a_handed_list_that_is_changed_changes_nothing_told(self):
        for call, things in CALLS:
            with self.subTest(call=call.__name__, things=things):
                given = copy.deepcopy(things)
                told = call(*given)
                wanted = copy.deepcopy(told)
                for thing in given:
                    spoil(thing)
                self.assertEqual(told, wanted)
                self.assertEqual(call(*copy.deepcopy(things)), wanted)

    def test_later_calls_change_nothing_told(self):
        told = [call(*copy.deepcopy(things)) for call, things in CALLS]
        wanted = copy.deepcopy(told)
        again = [call(*copy.deepcopy(things)) for call, things in CALLS]
        self.assertEqual(again, wanted)
        for each in again:
            spoil(each)
        self.assertEqual(told, wanted)

    def test_lists_told_together_are_not_one_list(self):
        for call, things in CALLS:
            told = call(*copy.deepcopy(things))
            lists = lists_in(told)
            self.assertEqual(len({id(each) for each in lists}), len(lists), call.__name__)

    def test_one_list_handed_in_twice(self):
        form = list(FORM)
        for call in (plus, less, times, unlike):
            call(form, form)
            self.assertEqual(form, FORM)
        either = list(EITHER)
        put_in(either, 0, either)
        self.assertEqual(either, EITHER)


if __name__ == "__main__":
    unittest.main()
