import unittest
from itertools import combinations_with_replacement, permutations, product

from plusless.errors import Lacking, NoNumber, NoRow
from plusless.every import every_by_parts, every_by_signs, fewest_by_parts, fewest_by_signs
from plusless.every import missed_by_parts, missed_by_signs, row_by_parts, row_by_signs, weighed
from samples import LARGE, MORE_ROWS, NO_NUMBERS, SIXTEENS, all_parts, all_signs, counted, plain_worth, refused

SHORT_ROWS = (
    [()] + [(number,) for number in range(1, 9)] + list(product(range(1, 9), repeat=2)) + list(product(range(1, 7), repeat=3))
    + list(combinations_with_replacement(range(1, 9), 4)) + [(12, 1, 3, 2), (27, 3, 1, 9), (1, 2, 4, 8, 16), (1, 3, 9, 27, 81)]
)
LONGER_ROWS = [(1,) * 16, (2,) * 16, (16, 15, 14, 13, 12, 11, 10, 9, 8, 7, 6, 5, 4, 3, 2, 1), (1,) + (3,) * 15, (1,) + (4,) * 15]


def missed(row, choices, step):
    """The greatest number from the total down to 0, by steps, that is no worth of the choices."""
    reached = counted(row, choices)
    return max([number for number in range(sum(row), -1, -step) if number not in reached], default=None)


class EveryWorth(unittest.TestCase):
    def test_told_ones(self):
        for row, by_parts, by_signs in (
            ((), True, True), ((1,), True, True), ((2,), False, False), ((1, 2), True, True), ((1, 3), True, False),
            ((3, 1), True, False), ((1, 4), False, False), ((9, 3, 1), True, False), ((4, 2, 1), True, True),
            ((1, 1, 3), True, True), ((1, 1, 4), True, False), ((1, 1, 6), False, False), ((1, 1, 5), True, False),
            (SIXTEENS[3], True, False), (SIXTEENS[4], False, False), ((1,) * 16, True, True), ((LARGE, 1), False, False),
            (tuple(2 ** place for place in range(15, -1, -1)), True, True),
            (tuple(3 ** place for place in range(15)) + (3 ** 15 + 1,), False, False),
        ):
            self.assertIs(every_by_parts(row), by_parts, row)
            self.assertIs(every_by_signs(row), by_signs, row)

    def test_against_all_parts_and_all_signs(self):
        seen = set()
        for row in SHORT_ROWS:
            by_parts = missed(row, all_parts(row), 1)
            by_signs = missed(row, all_signs(row), 2)
            self.assertIs(every_by_parts(row), by_parts is None, row)
            self.assertIs(every_by_signs(row), by_signs is None, row)
            self.assertEqual(missed_by_parts(row), by_parts, row)
            self.assertEqual(missed_by_signs(row), by_signs, row)
            seen.add((by_parts is None, by_signs is None))
        self.assertEqual(seen, {(True, True), (True, False), (False, False)})

    def test_long_rows_by_signs(self):
        for row in LONGER_ROWS:
            reached = {0}
            for number in row:
                reached = {s + sign * number for s in reached for sign in (-1, 1)}
            lacking = max([s for s in range(sum(row), -1, -2) if s not in reached], default=None)
            self.assertIs(every_by_signs(row), lacking is None, row)
            self.assertEqual(missed_by_signs(row), lacking, row)

    def test_long_rows_by_parts(self):
        for row in LONGER_ROWS:
            reached = {0}
            for number in row:
                reached = {s + part * number for s in reached for part in (-1, 0, 1)}
            lacking = max([s for s in range(sum(row) + 1) if s not in reached], default=None)
            self.assertIs(every_by_parts(row), lacking is None, row)
            self.assertEqual(missed_by_parts(row), lacking, row)

    def test_the_greatest_missed_one(self):
        for row, by_parts, by_signs in (
            ((), None, None), ((2,), 1, 0), ((3,), 2, 1), ((1, 3), None, 0), ((1, 5), 3, 2), ((5, 1), 3, 2),
            ((1, 2, 9), 5, 4), ((LARGE,), LARGE - 1, LARGE - 2), ((LARGE, LARGE), 2 * LARGE - 1, 2 * LARGE - 2),
            ((1, LARGE, 1), LARGE - 3, LARGE - 4), ((1, 2, 20, 400), 416, 415), ((1, 2, 4, 22), 14, 13),
        ):
            self.assertEqual(missed_by_parts(row), by_parts, row)
            self.assertEqual(missed_by_signs(row), by_signs, row)

    def test_the_order_does_not_count(self):
        for row in ((1, 2, 5), (1, 3, 9), (1, 3, 10), (2, 1, 4), (1, 1, 4, 20)):
            for mixed in permutations(row):
                self.assertIs(every_by_parts(mixed), every_by_parts(row))
                self.assertIs(every_by_signs(mixed), every_by_signs(row))
                self.assertEqual(missed_by_parts(mixed), missed_by_parts(row))
                self.assertEqual(missed_by_signs(mixed), missed_by_signs(row))


class Fewest(unittest.TestCase):
    def shortest_by_all(self, t, is_every):
        """Goes through all rows with this total, the shortest ones first."""
        for many in range(t + 1):
            for row in combinations_with_replacement(range(1, t + 1), many):
                if sum(row) == t and is_every(row):
                    return many

    def test_told_ones(self):
        for t, by_parts, by_signs in ((0, 0, 0), (1, 1, 1), (2, 2, 2), (3, 2, 2), (4, 2, 3), (5, 3, 3), (13, 3, 4), (14, 4, 4)):
            self.assertEqual((fewest_by_parts(t), fewest_by_signs(t)), (by_parts, by_signs), t)
        self.assertEqual((row_by_parts(0), row_by_signs(0)), ((), ()))
        self.assertEqual((row_by_parts(1), row_by_signs(1)), ((1,), (1,)))
        self.assertEqual(sorted(row_by_parts(13)), [1, 3, 9])
        self.assertEqual(sorted(row_by_signs(15)), [1, 2, 4, 8])

    def test_against_all_rows(self):
        for t in range(15):
            by_parts = self.shortest_by_all(t, lambda row: missed(row, all_parts(row), 1) is None)
            self.assertEqual(fewest_by_parts(t), by_parts, t)
            by_signs = self.shortest_by_all(t, lambda row: missed(row, all_signs(row), 2) is None)
            self.assertEqual(fewest_by_signs(t), by_signs, t)

    def test_how_many_by_powers(self):
        edges = {(3 ** many - 1) // 2 + more for many in range(63) for more in (-1, 0, 1)}
        edges |= {2 ** many + more for many in range(100) for more in (-2, -1, 0)}
        for t in sorted(t for t in edges | set(range(400)) | {LARGE, 10 ** 29} if t >= 0):
            many = fewest_by_parts(t)
            self.assertGreaterEqual(3 ** many, 2 * t + 1)
            self.assertTrue(many == 0 or 3 ** (many - 1) < 2 * t + 1, t)
            many = fewest_by_signs(t)
            self.assertGreaterEqual(2 ** many, t + 1)
            self.assertTrue(many == 0 or 2 ** (many - 1) < t + 1, t)

    def test_rows_of_so_many(self):
        for t in list(range(400)) + [12345, 21523360, 21523361, 10 ** 29, LARGE, 2 ** 99, 2 ** 99 - 1]:
            for row, many, times in ((row_by_parts(t), fewest_by_parts(t), 2), (row_by_signs(t), fewest_by_signs(t), 1)):
                self.assertIs(type(row), tuple)
                self.assertEqual({type(number) for number in row} | {int}, {int})
                self.assertEqual((sum(row), len(row)), (t, many), t)
                ahead = 0
                for number in sorted(row):
                    self.assertGreaterEqual(number, 1)
                    self.assertLessEqual(number, times * ahead + 1)
                    ahead += number

    def test_rows_of_up_to_sixteen_come_to_every_worth(self):
        for t in list(range(200)) + [65535, 21523360]:
            if fewest_by_parts(t) <= 16:
                self.assertIs(every_by_parts(row_by_parts(t)), True, t)
            if fewest_by_signs(t) <= 16:
                self.assertIs(every_by_signs(row_by_signs(t)), True, t)

    def test_more_than_sixteen_are_told_all_the_same(self):
        self.assertEqual((len(row_by_signs(65535)), len(row_by_signs(65536))), (16, 17))
        self.assertEqual((len(row_by_parts(21523360)), len(row_by_parts(21523361))), (16, 17))
        self.assertEqual((fewest_by_signs(LARGE), len(row_by_signs(LARGE))), (100, 100))
        self.assertEqual((fewest_by_parts(LARGE), len(row_by_parts(LARGE))), (64, 64))
        self.assertEqual(refused(every_by_signs, row_by_signs(65536)), NoRow)

    def test_refused(self):
        for function in (fewest_by_parts, fewest_by_signs, row_by_parts, row_by_signs):
            for thing in NO_NUMBERS + [-1, -2, -LARGE]:
                self.assertIs(refused(function, thing), NoNumber, (function.__name__, thing))


class Weighed(unittest.TestCase):
    def test_told_ones(self):
        self.assertEqual(weighed((), 0), ())
        self.assertEqual(weighed((1,), -1), (-1,))
        self.assertEqual(weighed((1,), 0), (0,))
        self.assertEqual(weighed((1, 3, 9), 5), (-1, -1, 1))
        self.assertEqual(weighed((9, 1, 3), 6), (1, 0, -1))
        self.assertEqual(weighed((9, 1, 3), -6), (-1, 0, 1))

    def test_every_number_up_to_the_total(self):
        for row in SHORT_ROWS + LONGER_ROWS:
            if every_by_parts(row):
                for number in range(-sum(row), sum(row) + 1):
                    parts = weighed(row, number)
                    self.assertIs(type(parts), tuple)
                    self.assertEqual(len(parts), len(row))
                    self.assertEqual({type(part) for part in parts} | {int}, {int})
                    self.assertLessEqual(set(parts), {-1, 0, 1})
                    self.assertEqual(plain_worth(row, parts), number, row)

    def test_a_long_row(self):
        row = SIXTEENS[3]
        for number in list(range(-50, 50)) + [sum(row), -sum(row), sum(row) - 1, 3 ** 15, 3 ** 15 - 1, 12345678, -7654321]:
            self.assertEqual(plain_worth(row, weighed(row, number)), number)

    def test_no_number_ahead_of_lacking(self):
        for row in ((), (1,), (1, 3), (2,), (1, 5), (LARGE,), (2,) * 16):
            for number in (sum(row) + 1, -sum(row) - 1, LARGE * 100, -LARGE * 100):
                self.assertIs(refused(weighed, row, number), NoNumber, (row, number))
            for number in NO_NUMBERS:
                self.assertIs(refused(weighed, row, number), NoNumber, (row, number))

    def test_lacking(self):
        for row in ((2,), (1, 5), (5, 1), (2, 2), (LARGE,), (2,) * 16, (1, 1, 6), (1, 3, 10), (LARGE, 1, LARGE)):
            for number in (0, 1, -1, 2, sum(row), -sum(row), sum(row) - 1):
                self.assertIs(refused(weighed, row, number), Lacking, (row, number))
        for row in MORE_ROWS:
            expected = None if every_by_parts(row) else Lacking
            self.assertIs(refused(weighed, row, 1), expected, row)


if __name__ == "__main__":
    unittest.main()
