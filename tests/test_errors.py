import unittest

from plusless import errors
from plusless import evenness, every, halves, inturn, rows, tables, texts
from plusless.errors import NoNumber, NoRow, NoSigns, NoText, PlusError, TooMany
from samples import ELEVEN, NEVER_PARTS, NO_NUMBERS, NO_ROWS

MADE_OF_A_TEXT = ("NoRow", "NoNumber", "NoSigns", "TooMany", "Lacking", "Bare", "NoTable", "NoLine")

# These refuse more than ten numbers, the others do not.
FEW_ALONE = (tables.sign_table, tables.part_table, evenness.uneven_paper)
THING_AND_FEW = (evenness.uneven_bound,)
FEW_AND_NUMBER = (
    tables.signs_to, tables.parts_to, tables.sign_ways, tables.part_ways,
    tables.layers_for, tables.wide_layers_for, tables.rest_for, inturn.swing_paper,
)
THING_FEW_NUMBER = (tables.is_barred, tables.is_wide_barred, tables.is_rest, inturn.is_swing_paper)

LONG_ALONE = (
    rows.total, halves.half_worths,
    evenness.unevenness, evenness.evenest, evenness.evenest_many, evenness.differences, evenness.difference_signs,
    every.every_by_parts, every.every_by_signs, every.missed_by_parts, every.missed_by_signs,
    inturn.least_swing, inturn.calm, inturn.leaning,
)
THING_AND_LONG = (rows.are_parts, rows.are_signs)
LONG_AND_NUMBER = (
    halves.many_met, halves.first_met, halves.stair_for, halves.below, halves.above, every.weighed, inturn.calm_many,
)
THING_LONG_NUMBER = (halves.is_stair,)

ROW_ALONE = FEW_ALONE + LONG_ALONE
THING_AND_ROW = THING_AND_FEW + THING_AND_LONG
ROW_AND_NUMBER = FEW_AND_NUMBER + LONG_AND_NUMBER
THING_ROW_NUMBER = THING_FEW_NUMBER + THING_LONG_NUMBER
ROW_AND_PARTS = (rows.worth, rows.turned, rows.lots, rows.kept, texts.show, inturn.swing)

THINGS = [None, True, 2, -1, "x", [], [(0,)], (), (1,), {}, [[0]]]


class Classes(unittest.TestCase):
    def test_all_stand_straight_under_plus_error(self):
        self.assertEqual(PlusError.__bases__, (ValueError,))
        for name in MADE_OF_A_TEXT + ("NoText",):
            self.assertEqual(getattr(errors, name).__bases__, (PlusError,), name)

    def test_no_two_are_the_same(self):
        made = [getattr(errors, name) for name in MADE_OF_A_TEXT + ("NoText",)]
        self.assertEqual(len(set(made)), 9)

    def test_they_are_made_of_a_text(self):
        for name in MADE_OF_A_TEXT:
            self.assertEqual(str(getattr(errors, name)("some words")), "some words")
        self.assertEqual(str(PlusError("some words")), "some words")

    def test_no_text_keeps_at(self):
        for at in (0, 1, 16):
            self.assertEqual(NoText(at).at, at)


class Order(unittest.TestCase):
    def assert_refused(self, error, function, *handed):
        with self.assertRaises(PlusError, msg=f"{function.__name__}{handed!r}") as caught:
            function(*handed)
        self.assertIs(type(caught.exception), error, f"{function.__name__}{handed!r}")

    def test_no_row_ahead_of_all_else(self):
        for row in NO_ROWS:
            for function in ROW_ALONE:
                self.assert_refused(NoRow, function, row)
            for thing in THINGS:
                for function in ROW_AND_PARTS:
                    self.assert_refused(NoRow, function, row, thing)
                for function in THING_AND_ROW:
                    self.assert_refused(NoRow, function, thing, row)
            for number in (0, 3, True, None, "1", [], (1,)):
                for function in ROW_AND_NUMBER:
                    self.assert_refused(NoRow, function, row, number)
                for thing in THINGS:
                    for function in THING_ROW_NUMBER:
                        self.assert_refused(NoRow, function, thing, row, number)

    def test_no_number_next(self):
        for number in NO_NUMBERS:
            for row in ((), (1,), (2, 3), ELEVEN, (1,) * 16):
                for function in ROW_AND_NUMBER:
                    self.assert_refused(NoNumber, function, row, number)
                for thing in THINGS:
                    for function in THING_ROW_NUMBER:
                        self.assert_refused(NoNumber, function, thing, row, number)

    def test_no_signs_behind_no_row(self):
        for parts in NEVER_PARTS:
            for row in ((1,), (2, 3), (2, 3, 4), (1,) * 16):
                for function in ROW_AND_PARTS:
                    self.assert_refused(NoSigns, function, row, parts)

    def test_too_many_behind_all_else(self):
        for row in (ELEVEN, tuple(range(1, 12)), (1,) * 12, (1,) * 16):
            for function in FEW_ALONE:
                self.assert_refused(TooMany, function, row)
            for thing in THINGS:
                for function in THING_AND_FEW:
                    self.assert_refused(TooMany, function, thing, row)
            for number in (0, 1, -5, 10 ** 29):
                for function in FEW_AND_NUMBER:
                    self.assert_refused(TooMany, function, row, number)
                for thing in THINGS:
                    for function in THING_FEW_NUMBER:
                        self.assert_refused(TooMany, function, thing, row, number)

    def test_sixteen_are_not_too_many_for_the_others(self):
        for row in (ELEVEN, (1,) * 16):
            for function in LONG_ALONE:
                function(row)
            for number in (0, 1, -5):
                for function in LONG_AND_NUMBER:
                    function(row, number)
            for thing in THINGS:
                for function in THING_AND_LONG:
                    self.assertIs(function(thing, row), False)
                for function in THING_LONG_NUMBER:
                    self.assertIs(function(thing, row, 1), False)


if __name__ == "__main__":
    unittest.main()
