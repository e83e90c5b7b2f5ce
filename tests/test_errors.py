import unittest

from plusless import errors
from plusless import rows, tables, texts
from plusless.errors import NoNumber, NoRow, NoSigns, NoText, PlusError, TooMany
from samples import ELEVEN, NEVER_PARTS, NO_NUMBERS, NO_ROWS

MADE_OF_A_TEXT = ("NoRow", "NoNumber", "NoSigns", "TooMany", "Lacking", "Bare", "NoTable", "NoLine")

ROW_ALONE = (rows.total, tables.sign_table, tables.part_table)
ROW_AND_PARTS = (rows.worth, rows.turned, rows.lots, rows.kept, texts.show)
THING_AND_ROW = (rows.are_parts, rows.are_signs)
ROW_AND_NUMBER = (
    tables.signs_to, tables.parts_to, tables.sign_ways, tables.part_ways,
    tables.layers_for, tables.wide_layers_for, tables.rest_for,
)
THING_ROW_NUMBER = (tables.is_barred, tables.is_wide_barred, tables.is_rest)

THINGS = [None, True, 2, -1, "x", [], [(0,)], (), (1,), {}, [[0]]]


class Classes(unittest.TestCase):
    def test_all_stand_straight_under_plus_error(self):
        self.assertEqual(PlusError.__bases__, (ValueError,))
        for name in MADE_OF_A_TEXT + ("NoText",):
            self.assertEqual(getattr(errors, name).__bases__, (PlusError,), name)

    def test_no_two_are_the_same(self):
        made = [getattr(errors, name) for name in MADE_OF_A_TEXT + ("NoText",)]
        self.assertEqual(len(set(made)), 9)

    def test_they_are_made_of_a_text(self):
        for name in MADE_OF_A_TEXT:
            self.assertEqual(str(getattr(errors, name)("some words")), "some words")
        self.assertEqual(str(PlusError("some words")), "some words")

    def test_no_text_keeps_at(self):
        for at in (0, 1, 16):
            self.assertEqual(NoText(at).at, at)


class Order(unittest.TestCase):
    def assert_refused(self, error, function, *handed):
        with self.assertRaises(PlusError, msg=f"{function.__name__}{handed!r}") as caught:
            function(*handed)
        self.assertIs(type(caught.exception), error, f"{function.__name__}{handed!r}")

    def test_no_row_ahead_of_all_else(self):
        for row in NO_ROWS:
            for function in ROW_ALONE:
                self.assert_refused(NoRow, function, row)
            for thing in THINGS:
                for function in ROW_AND_PARTS:
                    self.assert_refused(NoRow, function, row, thing)
                for function in THING_AND_ROW:
                    self.assert_refused(NoRow, function, thing, row)
            for number in (0, 3, True, None, "1", [], (1,)):
                for function in ROW_AND_NUMBER:
                    self.assert_refused(NoRow, function, row, number)
                for thing in THINGS:
                    for function in THING_ROW_NUMBER:
                        self.assert_refused(NoRow, function, thing, row, number)

    def test_no_number_next(self):
        for number in NO_NUMBERS:
            for row in ((), (1,), (2, 3), ELEVEN, (1,) * 16):
                for function in ROW_AND_NUMBER:
                    self.assert_refused(NoNumber, function, row, number)
                for thing in THINGS:
                    for function in THING_ROW_NUMBER:
                        self.assert_refused(NoNumber, function, thing, row, number)

    def test_no_signs_behind_no_row(self):
        for parts in NEVER_PARTS:
            for row in ((1,), (2, 3), (2, 3, 4), (1,) * 16):
                for function in ROW_AND_PARTS:
                    self.assert_refused(NoSigns, function, row, parts)

    def test_too_many_behind_all_else(self):
        for row in (ELEVEN, tuple(range(1, 12)), (1,) * 12, (1,) * 16):
            for function in (tables.sign_table, tables.part_table):
                self.assert_refused(TooMany, function, row)
            for number in (0, 1, -5, 10 ** 29):
                for function in ROW_AND_NUMBER:
                    self.assert_refused(TooMany, function, row, number)
                for thing in THINGS:
                    for function in THING_ROW_NUMBER:
                        self.assert_refused(TooMany, function, thing, row, number)


if __name__ == "__main__":
    unittest.main()
