import unittest

from plusless.halves import above, below, first_met, half_worths, is_stair, many_met, stair_for
from plusless.tables import sign_ways, signs_to
from samples import (
    LARGE, MORE_ROWS, NO_NUMBERS, NO_ROWS, SIXTEENS, SMALL_ROWS, TEN, numbers_about, signs_by_worth,
)

SHORT_ROWS = SMALL_ROWS + MORE_ROWS
ROWS = SHORT_ROWS + [TEN, tuple(range(1, 12)), (5,) * 13] + SIXTEENS


def each_asked(rows=ROWS):
    for row in rows:
        # All signs of a long row are gone through once, so that many numbers cost little.
        found = signs_by_worth(row)
        for number in numbers_about(row):
            yield row, number, found


def walked(row, number):
    """The places that the words of the document lead along, with the worth at each."""
    ahead, behind = half_worths(row)
    at = (0, len(behind) - 1)
    while at[0] in range(len(ahead)) and at[1] in range(len(behind)):
        both = ahead[at[0]] + behind[at[1]]
        yield at, both
        if both == number:
            return
        at = (at[0] + 1, at[1]) if both < number else (at[0], at[1] - 1)


class HalfWorths(unittest.TestCase):
    def test_told_ones(self):
        self.assertEqual(half_worths(()), ((0,), (0,)))
        self.assertEqual(half_worths((7,)), ((0,), (-7, 7)))
        self.assertEqual(half_worths((3, 5)), ((-3, 3), (-5, 5)))
        self.assertEqual(half_worths((3, 5, 7)), ((-3, 3), (-12, -2, 2, 12)))
        self.assertEqual(half_worths((1, 1, 2, 2, 2)), ((-2, 0, 2), (-6, -2, 2, 6)))

    def test_against_all_signs_of_both_halves(self):
        for row in ROWS:
            lesser = len(row) // 2
            expected = [tuple(sorted(signs_by_worth(half))) for half in (row[:lesser], row[lesser:])]
            self.assertEqual(half_worths(row), tuple(expected), row)

    def test_kinds(self):
        told = half_worths((3, 5, 7))
        self.assertIs(type(told), tuple)
        self.assertEqual([type(half) for half in told], [tuple, tuple])


class Met(unittest.TestCase):
    def test_told_ones(self):
        self.assertEqual(many_met((), 0), 1)
        self.assertEqual(many_met((), 1), 0)
        self.assertEqual(many_met((1, 2, 3), 0), 2)
        self.assertEqual(many_met((1,) * 16, 0), 12870)
        self.assertEqual(many_met((1,) * 16, 1), 0)
        self.assertEqual(first_met((), 0), ())
        self.assertIsNone(first_met((), 1))
        self.assertEqual(first_met((1, 2, 3), 0), (-1, -1, 1))
        self.assertEqual(first_met((3, 5), 2), (-1, 1))
        self.assertIsNone(first_met((3, 5), 3))
        self.assertEqual(first_met((1,) * 16, 0), (-1,) * 8 + (1,) * 8)
        self.assertEqual(first_met((2, 1, 1, 2), 0), (-1, -1, 1, 1))

    def test_against_all_signs(self):
        for row, number, found in each_asked():
            self.assertEqual(many_met(row, number), len(found.get(number, [])), (row, number))
            self.assertEqual(first_met(row, number), found.get(number, [None])[0], (row, number))

    def test_many_as_the_tables_tell(self):
        for row, number, found in each_asked(SHORT_ROWS + [TEN]):
            self.assertEqual(many_met(row, number), sign_ways(row, number), (row, number))
            self.assertEqual(first_met(row, number), signs_to(row, number), (row, number))

    def test_all_worths_of_a_long_row(self):
        for row in SIXTEENS[:3]:
            for number, signs in signs_by_worth(row).items():
                self.assertEqual(many_met(row, number), len(signs), (row, number))
                self.assertEqual(first_met(row, number), signs[0], (row, number))

    def test_first_where_both_halves_have_a_choice(self):
        for row in ((2, 1, 1, 1, 1, 2), (3, 2, 1, 1, 2, 3), (1, 1, 2, 2, 1, 1), (5, 4, 3, 2, 1, 1, 2, 3, 4, 5)):
            for number, signs in signs_by_worth(row).items():
                self.assertEqual(first_met(row, number), signs[0], (row, number))


class Stairs(unittest.TestCase):
    def test_told_ones(self):
        self.assertEqual(stair_for((), 1), ((0, 0),))
        self.assertEqual(stair_for((), -1), ((0, 0),))
        self.assertIsNone(stair_for((), 0))
        self.assertEqual(stair_for((3, 5), 0), ((0, 1), (0, 0), (1, 0)))
        self.assertEqual(stair_for((3, 5), 9), ((0, 1), (1, 1)))
        self.assertEqual(stair_for((3, 5), -9), ((0, 1), (0, 0)))
        self.assertEqual(stair_for((7,), 0), ((0, 1), (0, 0)))
        self.assertIsNone(stair_for((3, 5), 2))
        self.assertIsNone(stair_for((3, 5), -8))

    def test_the_stair_by_the_words(self):
        for row, number, found in each_asked():
            steps = list(walked(row, number))
            told = stair_for(row, number)
            if number in found:
                self.assertIsNone(told, (row, number))
                self.assertIs(is_stair(tuple([at for at, both in steps]), row, number), False, (row, number))
            else:
                self.assertEqual(told, tuple([at for at, both in steps]), (row, number))
                self.assertNotIn(number, [both for at, both in steps])
                self.assertIs(is_stair(told, row, number), True, (row, number))

    def test_a_stair_of_another_number_or_row(self):
        self.assertIs(is_stair(stair_for((3, 5), 0), (3, 5), 1), True)
        self.assertIs(is_stair(stair_for((3, 5), 0), (3, 5), 2), False)
        self.assertIs(is_stair(stair_for((3, 5), 0), (3, 5), 9), False)
        self.assertIs(is_stair(stair_for((3, 5), 0), (5, 3), 0), False)
        self.assertIs(is_stair(stair_for((3, 5), 0), (3, 5, 7), 0), False)


class Changed(unittest.TestCase):
    rows = [(), (1,), (2, 1), (3, 5), (1, 1, 2), (2, 4, 6), (5, 1, 8, 2), (LARGE, 1, LARGE), (1, 3, 9, 27, 81)]

    def each_told(self):
        for row in self.rows:
            for number in (sum(row) + 1, -sum(row) - 3, sum(row) - 1, 1 - sum(row) % 2):
                if number not in signs_by_worth(row):
                    yield stair_for(row, number), row, number

    def assert_not(self, thing, row, number):
        self.assertIs(is_stair(thing, row, number), False, (thing, row, number))

    def test_a_place_left_out_or_twice(self):
        for told, row, number in self.each_told():
            for at in range(len(told)):
                self.assert_not(told[:at] + told[at + 1:], row, number)
                self.assert_not(told[:at] + told[at:at + 1] + told[at:], row, number)
            self.assert_not(told + ((0, 0),), row, number)
            self.assert_not(told + ((),), row, number)

    def test_a_place_changed(self):
        for told, row, number in self.each_told():
            for at, (i, j) in enumerate(told):
                places = [(i + 1, j), (i, j + 1), (i - 1, j), (i, j - 1), (i,), (i, j, 0), (), (j + 5, i), [i, j], {i: j}, i]
                places += [(str(i), j), (i, None), ((i,), j), (i, [j]), None, True, "01", {0: i, 1: j}]
                for place in places:
                    self.assert_not(told[:at] + (place,) + told[at + 1:], row, number)

    def test_a_truth_is_no_place(self):
        seen = 0
        for told, row, number in self.each_told():
            for at, (i, j) in enumerate(told):
                for place in ((bool(i), j), (i, bool(j)), (bool(i), bool(j))):
                    if place == (i, j):
                        seen += 1
                        self.assert_not(told[:at] + (place,) + told[at + 1:], row, number)
        self.assertGreater(seen, 20)

    def test_lists_and_order(self):
        for told, row, number in self.each_told():
            for thing in (list(told), [list(place) for place in told], dict(enumerate(told)), str(told), (told,), [told]):
                self.assert_not(thing, row, number)
            if len(told) > 1:
                self.assert_not(told[::-1], row, number)

    def test_things_of_other_kinds(self):
        for row in self.rows:
            for thing in NO_NUMBERS + NO_ROWS + [0, (), (0,), ((),), ((0,),), (None,), ((None, None),), LARGE]:
                for number in (sum(row), sum(row) + 1, 0):
                    self.assert_not(thing, row, number)


class Nearest(unittest.TestCase):
    def test_told_ones(self):
        self.assertEqual((below((), 0), above((), 0)), (0, 0))
        self.assertEqual((below((), 1), above((), 1)), (0, None))
        self.assertEqual((below((), -1), above((), -1)), (None, 0))
        self.assertEqual((below((3, 5), 1), above((3, 5), 1)), (-2, 2))
        self.assertEqual((below((3, 5), 2), above((3, 5), 2)), (2, 2))
        self.assertEqual((below((3, 5), 9), above((3, 5), 9)), (8, None))
        self.assertEqual((below((3, 5), -9), above((3, 5), -9)), (None, -8))
        self.assertEqual((below((1,) * 16, 15), above((1,) * 16, 15)), (14, 16))

    def test_against_all_signs(self):
        for row, number, found in each_asked():
            expected = max([s for s in found if s <= number], default=None)
            self.assertEqual(below(row, number), expected, (row, number))
            expected = min([s for s in found if s >= number], default=None)
            self.assertEqual(above(row, number), expected, (row, number))

    def test_the_number_itself_just_where_signs_come_to_it(self):
        for row, number, found in each_asked(SHORT_ROWS):
            self.assertEqual(below(row, number) == number, number in found)
            self.assertEqual(above(row, number) == number, number in found)


if __name__ == "__main__":
    unittest.main()
