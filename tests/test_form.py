"""The form of a call and the order of the refusals: -100, -1, -2, then the call's own."""

import unittest

from tests.support import (
    BAD_FORM, CHAMBER, CHECK, HUGE, LOOK, NOT_LAID, OUT_OF_RANGE, REFUSED, TIME, TOTALS, CallsTest, apart, busy,
    cell, control, fault, flow, hang, heat, hold, last, lay, recipe, run, supply, tick, window, would,
)

# By place: how many arguments the document tells.
ARGUMENTS = (4, 4, 5, 1, 4, 4, 4, 2, 1, 3, 1, 0, 0, 1, 0, 1, 0, 1, 0)

# Calls that are fine after a line of two cells was laid, one a place.
FINE = (
    lay(2, 1, 1, 1000), recipe(1, 4, 1, 5), hang(0, 10, 1, 2, 3), flow(5), window(1, 2, 3, 4), control(1, 2, 3, 4),
    heat(1, 2, 3, 4), apart(1, 2), tick(1), fault(1, 1, 5), hold(1), CHECK, LOOK, cell(0), CHAMBER, supply(0),
    TOTALS, would(1), TIME,
)

# A call, the position of an argument in it (the place counted), the ends of its range there.
RANGES = (
    (lay(2, 0, 40, 1000), 1, 2, 32),
    (lay(2, 0, 40, 1000), 2, 0, 1),
    (lay(32, 0, 40, 1000), 2, 0, 31),
    (lay(7, 3, 40, 1000), 2, 0, 6),
    (lay(7, 3, 40, 1000), 3, 4, 1000),
    (lay(2, 1, 40, 1000), 3, 1, 1000),
    (lay(32, 0, 40, 1000), 3, 32, 1000),
    (lay(2, 0, 40, 1000), 4, 1000, 1000000),
    (recipe(0, 1000, 0, 1), 1, 0, 1000),
    (recipe(0, 1000000, 0, 1), 1, 0, 1000000),
    (recipe(0, 1, 0, 1), 2, 1, 1000000),
    (recipe(7, 10, 0, 1), 2, 7, 1000000),
    (recipe(0, 1, 0, 1000), 3, 0, 1000),
    (recipe(0, 1, 0, 1000000), 3, 0, 1000000),
    (recipe(0, 1, 0, 1), 4, 1, 1000000),
    (recipe(0, 1, 7, 10), 4, 7, 1000000),
    (hang(0, 0, 0, 0, 0), 1, 0, 1),
    (hang(0, 0, 0, 0, 0), 2, 0, 10000000),
    (hang(0, 0, 0, 0, 0), 3, 0, 10000),
    (hang(0, 0, 0, 0, 0), 4, 0, 10000),
    (hang(1, 0, 0, 0, 0), 5, 0, 10000),
    (flow(0), 1, 0, 5000),
    (window(500, 1000000, 0, 10000), 1, 0, 1000000),
    (window(500, 700, 0, 10000), 1, 0, 700),
    (window(500, 700, 0, 10000), 2, 500, 1000000),
    (window(0, 700, 0, 10000), 2, 0, 1000000),
    (window(0, 0, 50, 10000), 3, 0, 10000),
    (window(0, 0, 50, 70), 3, 0, 70),
    (window(0, 0, 50, 70), 4, 50, 10000),
    (window(0, 0, 0, 70), 4, 0, 10000),
    (control(0, 0, 0, 0), 1, 0, 1000000),
    (control(0, 0, 0, 0), 2, 0, 1000),
    (control(0, 0, 0, 0), 3, 0, 1000),
    (control(0, 0, 0, 0), 4, 0, 1000000000),
    (heat(0, 0, 0, 0), 1, 0, 10000),
    (heat(0, 0, 0, 0), 2, 0, 1000),
    (heat(0, 0, 0, 0), 3, 0, 10000000),
    (heat(0, 0, 0, 0), 4, 0, 3000),
    (apart(0, 0), 1, 0, 1000000),
    (apart(0, 0), 2, 0, 10000),
    (tick(1), 1, 1, 200),
    (fault(0, 0, 0), 1, 0, 3),
    (fault(0, 0, 0), 2, 0, 2),
    (fault(0, 0, 0), 3, -1000000, 1000000),
    (fault(1, 1, 0), 3, -1000000, 1000000),
    (fault(2, 2, 0), 3, -1000000, 1000000),
    (hold(0), 1, 0, 1),
    (cell(0), 1, 0, 31),
    (supply(0), 1, 0, 1),
    (would(1), 1, 1, 200),
)


def changed(call, at, number):
    """The call with another number at this position."""
    return call[:at] + [number] + call[at + 1:]


class FormTest(CallsTest):
    def test_every_place_takes_just_its_numbers(self):
        for place, wanted in enumerate(ARGUMENTS):
            self.assertEqual(len(FINE[place]), wanted + 1)
            for count in range(20):
                call = [place] + (FINE[place][1:] + [0] * 20)[:count]
                with self.subTest(call=call):
                    answer = last([lay(), call])
                    if count == wanted:
                        self.assertGreaterEqual(answer[0], 0)
                    else:
                        self.assertEqual(answer, BAD_FORM)

    def test_places_that_are_not_told(self):
        for place in [-HUGE, -101, -100, -20, -19, -18, -2, -1, 19, 20, 100, 255, 256, HUGE]:
            for count in range(20):
                with self.subTest(place=place, count=count):
                    self.assertEqual(run([[place] + [1] * count, lay(), [place] + [1] * count])[::2], [BAD_FORM] * 2)

    def test_a_call_of_20_numbers_is_of_no_place(self):
        for place in range(-20, 40):
            self.assertEqual(last([lay(), [place] + [0] * 19]), BAD_FORM)

    def test_bad_form_changes_nothing(self):
        for place, wanted in enumerate(ARGUMENTS):
            self.assert_refused(busy(), FINE[place] + [0], BAD_FORM)
            if wanted > 0:
                self.assert_refused(busy(), FINE[place][:-1], BAD_FORM)
        for place in [-1, -11, -19, 19]:
            for count in range(6):
                self.assert_refused(busy(), [place] + [1] * count, BAD_FORM)

    def test_bad_form_comes_before_all_else(self):
        for place, wanted in enumerate(ARGUMENTS):
            for count in (1, 2, 3, 4, 5, 6, 19):
                if count != wanted:
                    for number in (-HUGE, -1, 5001, HUGE):
                        call = [place] + [number] * count
                        self.assertEqual(run([call, lay(), call])[::2], [BAD_FORM] * 2, call)


class RangeTest(CallsTest):
    def test_both_ends_are_taken(self):
        for call, at, low, high in RANGES:
            for number in (low, low + 1, high - 1, high):
                taken = changed(call, at, number)
                with self.subTest(call=taken):
                    self.assertNotIn(last([lay(), taken]), (OUT_OF_RANGE, BAD_FORM, NOT_LAID))

    def test_beyond_both_ends_is_refused(self):
        for call, at, low, high in RANGES:
            for number in (low - 1, low - 2, high + 1, high + 2, -HUGE, HUGE):
                refused = changed(call, at, number)
                with self.subTest(call=refused):
                    self.assertEqual(last([lay(), refused]), OUT_OF_RANGE)

    def test_a_refused_argument_changes_nothing(self):
        for call, at, low, high in RANGES:
            self.assert_refused(busy(), changed(call, at, low - 1), OUT_OF_RANGE)
            self.assert_refused(busy(), changed(call, at, high + 1), OUT_OF_RANGE)

    def test_the_upper_end_of_a_part_is_its_whole_though_the_recipe_is_too_much(self):
        self.assertEqual(last([lay(), recipe(4, 4, 0, 1)]), REFUSED)
        self.assertEqual(last([lay(), recipe(5, 4, 0, 1)]), OUT_OF_RANGE)
        self.assertEqual(last([lay(), recipe(0, 1, 4, 4)]), [0])
        self.assertEqual(last([lay(), recipe(0, 1, 5, 4)]), OUT_OF_RANGE)

    def test_every_argument_is_looked_at(self):
        for place, wanted in enumerate(ARGUMENTS):
            for at in range(1, wanted + 1):
                for number in (-HUGE, HUGE):
                    self.assertEqual(last([lay(), changed(FINE[place], at, number)]), OUT_OF_RANGE)


class OrderTest(CallsTest):
    def test_nothing_laid_yet(self):
        for call in FINE[1:]:
            self.assertEqual(last([call]), NOT_LAID, call)

    def test_every_fine_call_is_taken_once_a_line_is_laid(self):
        for call in FINE:
            self.assertGreaterEqual(last([lay(), call])[0], 0, call)

    def test_a_refused_lay_lays_nothing(self):
        for call in FINE[1:]:
            self.assertEqual(run([lay(1, 0, 1, 1000), call]), [OUT_OF_RANGE, NOT_LAID])
            self.assertEqual(run([[0, 2, 1, 1], call]), [BAD_FORM, NOT_LAID])

    def test_what_is_refused_before_a_line_is_laid_leaves_the_beginning(self):
        after = [lay(3, 1, 2, 2000), TIME, supply(0), LOOK, flow(100), tick(3), LOOK, TOTALS]
        alone = run(after)
        for call in FINE[1:]:
            self.assertEqual(run([call] + after)[1:], alone, call)

    def test_out_of_range_comes_before_nothing_laid(self):
        for call, at, low, high in RANGES:
            for number in (low - 1, high + 1):
                self.assertEqual(last([changed(call, at, number)]), OUT_OF_RANGE)

    def test_nothing_laid_comes_before_the_call_s_own_refusals(self):
        self.assertEqual(last([recipe(1, 1, 1, 1)]), NOT_LAID)
        self.assertEqual(last([cell(31)]), NOT_LAID)

    def test_out_of_range_comes_before_the_call_s_own_refusals(self):
        laid = [lay() for i in range(50)]
        hung = [lay()] + [hang(0, 0, 0, 0, 0) for i in range(100)]
        ticked = [lay()] + [tick(200) for i in range(100)]
        self.assertEqual(last(laid + [lay(33, 1, 40, 1000)]), OUT_OF_RANGE)
        self.assertEqual(last(laid + [lay()]), REFUSED)
        self.assertEqual(last(hung + [hang(2, 0, 0, 0, 0)]), OUT_OF_RANGE)
        self.assertEqual(last(hung + [hang(1, 0, 0, 0, 0)]), REFUSED)
        self.assertEqual(last(ticked + [tick(201)]), OUT_OF_RANGE)
        self.assertEqual(last(ticked + [tick(0)]), OUT_OF_RANGE)
        self.assertEqual(last(ticked + [tick(200)]), REFUSED)
        self.assertEqual(last([lay(), recipe(2, 1, 1, 1)]), OUT_OF_RANGE)
        self.assertEqual(last([lay(), recipe(1, 1, 1, 1)]), REFUSED)
        self.assertEqual(last([lay(), cell(32)]), OUT_OF_RANGE)
        self.assertEqual(last([lay(), cell(2)]), REFUSED)

    def test_bad_form_comes_before_the_call_s_own_refusals(self):
        self.assertEqual(last([lay() for i in range(50)] + [lay() + [0]]), BAD_FORM)
        self.assertEqual(last([lay()] + [tick(200) for i in range(100)] + [tick(200) + [0]]), BAD_FORM)


if __name__ == "__main__":
    unittest.main()
