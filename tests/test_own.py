"""Point 4: nothing handed in is changed, and what is told is the asker's own."""

import unittest

from onceform.forms import is_form, less, made, plus, scaled, times, unknowns, worth
from onceform.tables import form_of, table_of, whole_sum

FORM = ((0, 2), (1, -3), (6, 10 ** 60))
OTHER = ((1, 4), (2, 1))
LOOSE = ((6, 1), (1, 0), (6, 2), (0, -5))

# Each call with what it is handed: a tuple stands for a fresh list of its entries.
CALLS = (
    (made, (LOOSE,)), (made, (FORM,)), (made, ((),)),
    (plus, (FORM, OTHER)), (plus, (FORM, ())), (plus, ((), FORM)), (plus, ((), ())),
    (less, (FORM, OTHER)), (less, (FORM, ())), (less, ((), FORM)),
    (times, (FORM, OTHER)), (times, (FORM, ((0, 1),))), (times, (((0, 1),), FORM)), (times, (FORM, ())),
    (scaled, (FORM, 3)), (scaled, (FORM, 1)), (scaled, (FORM, 0)), (scaled, ((), 1)),
    (worth, (FORM, 7)), (unknowns, (FORM,)), (is_form, (FORM,)), (is_form, (LOOSE,)),
    (table_of, (FORM, 3)), (table_of, (((0, 5),), 0)), (table_of, ((), 0)),
    (form_of, ((1, 2, 3, 4),)), (form_of, ((5,),)), (form_of, ((0,),)),
    (whole_sum, (FORM, 3)), (whole_sum, (FORM, 60)),
)


def handed(things):
    return [list(thing) if isinstance(thing, tuple) else thing for thing in things]


def spoil(told):
    """Changes each entry of a list and its length."""
    for place in range(len(told)):
        told[place] = "spoilt"
    told.append("more")


class Own(unittest.TestCase):
    def test_what_is_handed_in_stays_as_it_was(self):
        for call, things in CALLS:
            with self.subTest(call=call.__name__, things=things):
                given = handed(things)
                call(*given)
                self.assertEqual(given, handed(things))

    def test_a_told_list_that_is_changed_changes_nothing_else(self):
        for call, things in CALLS:
            with self.subTest(call=call.__name__, things=things):
                given = handed(things)
                told = call(*given)
                if not isinstance(told, list):
                    continue
                wanted = list(told)
                spoil(told)
                self.assertEqual(given, handed(things))
                self.assertEqual(call(*given), wanted)
                self.assertEqual(call(*handed(things)), wanted)

    def test_a_handed_list_that_is_changed_changes_nothing_told(self):
        for call, things in CALLS:
            with self.subTest(call=call.__name__, things=things):
                given = handed(things)
                told = call(*given)
                wanted = list(told) if isinstance(told, list) else told
                for thing in given:
                    if isinstance(thing, list):
                        spoil(thing)
                self.assertEqual(told, wanted)
                self.assertEqual(call(*handed(things)), wanted)

    def test_later_calls_change_nothing_told(self):
        told = [call(*handed(things)) for call, things in CALLS]
        wanted = [list(each) if isinstance(each, list) else each for each in told]
        again = [call(*handed(things)) for call, things in CALLS]
        self.assertEqual(again, wanted)
        for each in again:
            if isinstance(each, list):
                spoil(each)
        self.assertEqual(told, wanted)

    def test_one_list_handed_in_twice(self):
        form = list(FORM)
        for call in (plus, less, times):
            call(form, form)
            self.assertEqual(form, list(FORM))


if __name__ == "__main__":
    unittest.main()
