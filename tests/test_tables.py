import unittest

from plusless.tables import (
    part_table, part_ways, parts_to, sign_table, sign_ways, signs_to,
)
from plusless.tables import is_rest, rest_for
from samples import LARGE, MORE_ROWS, NO_NUMBERS, SMALL_ROWS, TEN, all_parts, all_signs, counted, numbers_about, plain_worth

ROWS = SMALL_ROWS + MORE_ROWS


def first_by_all(row, number, choices):
    for chosen in sorted(choices):
        if plain_worth(row, chosen) == number:
            return chosen
    return None


class Tables(unittest.TestCase):
    def test_told_ones(self):
        self.assertEqual(sign_table(()), {0: 1})
        self.assertEqual(part_table(()), {0: 1})
        self.assertEqual(sign_table((1, 1)), {-2: 1, 0: 2, 2: 1})
        self.assertEqual(part_table((1, 1)), {-2: 1, -1: 2, 0: 3, 1: 2, 2: 1})
        self.assertEqual(sign_table((LARGE,)), {LARGE: 1, -LARGE: 1})
        self.assertEqual(part_table((5,)), {-5: 1, 0: 1, 5: 1})

    def test_against_going_through_all(self):
        for row in ROWS:
            self.assertEqual(sign_table(row), counted(row, all_signs(row)), row)
            self.assertEqual(part_table(row), counted(row, all_parts(row)), row)

    def test_ten_numbers(self):
        self.assertEqual(sign_table(TEN), counted(TEN, all_signs(TEN)))
        self.assertEqual(part_table(TEN), counted(TEN, all_parts(TEN)))
        powers = tuple(3 ** place for place in range(10))
        self.assertEqual(part_table(powers), {reached: 1 for reached in range(-29524, 29525)})


class Ways(unittest.TestCase):
    def test_told_ones(self):
        self.assertEqual(signs_to((), 0), ())
        self.assertEqual(parts_to((), 0), ())
        self.assertIsNone(signs_to((), 1))
        self.assertIsNone(parts_to((), -1))
        self.assertEqual(signs_to((1, 1), 0), (-1, 1))
        self.assertEqual(parts_to((1, 1), 0), (-1, 1))
        self.assertEqual(parts_to((2, 1), 1), (0, 1))
        self.assertIsNone(signs_to((1, 2), 0))
        self.assertEqual((sign_ways((1, 2), 0), part_ways((1, 2), 0)), (0, 1))

    def test_against_going_through_all(self):
        for row in ROWS:
            for choices, first, ways in (
                (all_signs(row), signs_to, sign_ways), (all_parts(row), parts_to, part_ways),
            ):
                table = counted(row, choices)
                for number in numbers_about(row):
                    self.assertEqual(ways(row, number), table.get(number, 0), (row, number))
                    expected = first_by_all(row, number, choices) if number in table else None
                    self.assertEqual(first(row, number), expected, (row, number))

    def test_ten_numbers(self):
        signs = all_signs(TEN)
        parts = all_parts(TEN)
        for number in (-72, -71, -70, -3, 0, 1, 2, 69, 70, 71, 72, LARGE, -LARGE):
            self.assertEqual(signs_to(TEN, number), first_by_all(TEN, number, signs))
            self.assertEqual(parts_to(TEN, number), first_by_all(TEN, number, parts))
        self.assertEqual(sign_ways(TEN, 1), counted(TEN, signs)[1])
        self.assertEqual(part_ways(TEN, 0), counted(TEN, parts)[0])


class Rests(unittest.TestCase):
    def test_told_ones(self):
        self.assertIs(is_rest(2, (1,), 0), True)
        self.assertIs(is_rest(2, (1,), 1), False)
        self.assertIs(is_rest(4, (4, 6), 3), True)
        self.assertIs(is_rest(2, (4, 6), 2), False)
        self.assertIs(is_rest(2 * LARGE, (LARGE, LARGE), 1), True)
        self.assertEqual(rest_for((4, 6), 3), 4)
        self.assertIsNone(rest_for((4, 6), 2))
        self.assertEqual(rest_for((6, 10, 15), 0), 2)
        self.assertEqual(rest_for((LARGE, LARGE), LARGE), 2 * LARGE)

    def test_the_row_without_numbers(self):
        self.assertIs(is_rest(7, (), 3), True)
        self.assertIs(is_rest(LARGE, (), -1), True)
        self.assertIs(is_rest(3, (), 6), False)
        self.assertIs(is_rest(2, (), 0), False)
        for number in (0, 1, -1, 6, LARGE):
            self.assertIsNone(rest_for((), number))
            self.assertIs(is_rest(1, (), number), False)

    def test_things_of_whatever_kind(self):
        for thing in NO_NUMBERS + [1, 0, -1, -2, -4, -LARGE, (2,), [2], "2", {2: 2}]:
            for row in ((), (1,), (2, 4), TEN):
                for number in (0, 1, 3):
                    self.assertIs(is_rest(thing, row, number), False, (thing, row, number))

    def test_against_going_through_all(self):
        for row in [row for row in ROWS if sum(row) < 300]:
            for number in numbers_about(row):
                rests = [
                    m for m in range(2, 2 * max(row, default=0) + 3)
                    if not [n for n in row if (n + n) % m] and (sum(row) - number) % m
                ]
                for m in range(-2, 2 * max(row, default=0) + 3):
                    self.assertIs(is_rest(m, row, number), m in rests, (m, row, number))
                greatest = max(rests) if rests and row else None
                self.assertEqual(rest_for(row, number), greatest, (row, number))

    def test_where_there_is_a_rest_no_signs_come(self):
        for row in ROWS:
            for number in numbers_about(row):
                told = rest_for(row, number)
                if told is not None:
                    self.assertIs(is_rest(told, row, number), True)
                    self.assertEqual(sign_ways(row, number), 0, (row, number))


if __name__ == "__main__":
    unittest.main()
