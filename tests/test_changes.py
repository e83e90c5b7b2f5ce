import unittest
from itertools import permutations, product

from plusless.changes import grown, joined, mixed, multiplied, part_taken_out, shifted, taken_out, without
from plusless.errors import NoNumber, NoRow, NoSigns, NoTable, TooMany
from plusless.rows import is_row
from plusless.tables import part_table, sign_table
from samples import ALL_ROWS, LARGE, MORE_ROWS, NO_NUMBERS, NO_ROWS, NO_TABLES, SMALL_ROWS, TEN, nested, refused

ROWS = SMALL_ROWS + MORE_ROWS
TABLES = [
    {0: 1}, {5: 3}, {-LARGE: LARGE}, {1: 1, -1: 1}, {3: 2, 0: 1, -4: 7}, {2: 1, 1: 1, 0: 1}, {0: 2, 2: 1, -2: 1},
    {10: 1, -10: 1, LARGE: 4}, {place: place * place + 1 for place in range(-4, 5)},
]

# Nothing here may be put in for a number from 1 on.
NEVER_FROM_ONE = NO_NUMBERS + [0, -1, -2, -LARGE]


def plain_product(one, other):
    came = {}
    for s in one:
        for t in other:
            came.setdefault(s + t, []).append(one[s] * other[t])
    return {worth: sum(many) for worth, many in came.items()}


def orders_about(row):
    """Right orders of a row, whatever its length."""
    if len(row) <= 4:
        return list(permutations(range(len(row))))
    places = tuple(range(len(row)))
    return [places, places[::-1], places[3:] + places[:3], places[1::2] + places[::2]]


def small_tables(numbers, most):
    for many in product(range(most + 1), repeat=len(numbers)):
        table = {number: times for number, times in zip(numbers, many) if times}
        if table:
            yield table


class Joined(unittest.TestCase):
    def test_told_ones(self):
        self.assertEqual(joined((), ()), ())
        self.assertEqual(joined((3, 5), (7,)), (3, 5, 7))
        self.assertEqual(joined((), (7, 1)), (7, 1))
        self.assertEqual(joined((LARGE,), ()), (LARGE,))

    def test_up_to_sixteen(self):
        for many in range(17):
            for more in range(17):
                one = tuple(range(1, many + 1))
                other = (9,) * more
                if many + more > 16:
                    self.assertIs(refused(joined, one, other), TooMany)
                else:
                    self.assertEqual(joined(one, other), one + other)

    def test_no_row_ahead_of_too_many(self):
        for thing in NO_ROWS:
            for row in ((), (1,), (1,) * 16):
                self.assertIs(refused(joined, thing, row), NoRow, thing)
                self.assertIs(refused(joined, row, thing), NoRow, thing)
            self.assertIs(refused(joined, thing, thing), NoRow, thing)


class Grown(unittest.TestCase):
    def test_told_ones(self):
        self.assertEqual(grown((), 7), ())
        self.assertEqual(grown((3, 5), 1), (3, 5))
        self.assertEqual(grown((3, 5), 4), (12, 20))
        self.assertEqual(grown((LARGE, 1), LARGE), (LARGE * LARGE, LARGE))

    def test_what_was_told_grows_again(self):
        row = (3, 5)
        for times in range(300):
            row = grown(row, LARGE)
        self.assertEqual(row, (3 * LARGE ** 300, 5 * LARGE ** 300))
        self.assertIs(is_row(row), True)

    def test_no_number(self):
        for row in ((), (3, 5), (1,) * 16):
            for by in NEVER_FROM_ONE:
                self.assertIs(refused(grown, row, by), NoNumber, by)


class Mixed(unittest.TestCase):
    def test_told_ones(self):
        self.assertEqual(mixed((), ()), ())
        self.assertEqual(mixed((7,), (0,)), (7,))
        self.assertEqual(mixed((3, 5, 7), (2, 0, 1)), (7, 3, 5))
        self.assertEqual(mixed((3, 5, 7), (0, 1, 2)), (3, 5, 7))
        self.assertEqual(mixed(tuple(range(1, 17)), tuple(range(15, -1, -1))), tuple(range(16, 0, -1)))

    def test_by_the_words(self):
        for row in ALL_ROWS:
            for order in orders_about(row):
                told = mixed(row, order)
                self.assertEqual(len(told), len(row))
                for place, at in enumerate(order):
                    self.assertEqual(told[place], row[at], (row, order))

    def test_no_order(self):
        for row in ((), (3,), (3, 5), (3, 5, 7), (1,) * 16):
            many = len(row)
            right = tuple(range(many))
            things = NO_NUMBERS + [0, 1, list(right), dict(enumerate(right)), right + (many,), right + (0,), (right,), str(right)]
            things += [tuple([place + 1 for place in right]) + ((),) * (many == 0), (0,) * (many + 1), nested(9, right)]
            for place in right:
                things += [right[:place] + right[place + 1:]]
                for wrong in (-1, many, place - many, LARGE, None, True, False, str(place), [place], (place,), {}):
                    things.append(right[:place] + (wrong,) + right[place + 1:])
                if many > 1:
                    things.append(right[:place] + (right[place - 1],) + right[place + 1:])
            for thing in things:
                if thing == right and type(thing) is tuple and {type(place) for place in thing} <= {int}:
                    continue
                self.assertIs(refused(mixed, row, thing), NoSigns, (row, thing))

    def test_truths_are_no_places(self):
        self.assertIs(refused(mixed, (3, 5), (False, True)), NoSigns)
        self.assertIs(refused(mixed, (3, 5), (0, True)), NoSigns)
        self.assertIs(refused(mixed, (3,), (False,)), NoSigns)


class Without(unittest.TestCase):
    def test_told_ones(self):
        self.assertEqual(without((7,), 0), ())
        self.assertEqual(without((3, 5, 7), 0), (5, 7))
        self.assertEqual(without((3, 5, 7), 1), (3, 7))
        self.assertEqual(without((3, 5, 7), 2), (3, 5))
        self.assertEqual(without((1,) * 16, 15), (1,) * 15)

    def test_each_place(self):
        for row in ALL_ROWS:
            for place in range(len(row)):
                left = list(row)
                left.pop(place)
                self.assertEqual(without(row, place), tuple(left), (row, place))

    def test_no_place(self):
        for row in ((), (3,), (3, 5, 7), (1,) * 16):
            for place in NO_NUMBERS + [-1, -len(row) - 1, len(row), len(row) + 1, LARGE, -LARGE]:
                self.assertIs(refused(without, row, place), NoNumber, (row, place))

    def test_no_row_ahead_of_all_else(self):
        for row in NO_ROWS:
            for other in (0, 1, (), (0,), None, True, -1, "0", [0]):
                for function in (grown, mixed, without):
                    self.assertIs(refused(function, row, other), NoRow, (row, other))


class Multiplied(unittest.TestCase):
    def test_told_ones(self):
        self.assertEqual(multiplied({0: 1}, {5: 2}), {5: 2})
        self.assertEqual(multiplied({1: 1, -1: 1}, {1: 1, -1: 1}), {2: 1, 0: 2, -2: 1})
        self.assertEqual(multiplied({3: 2}, {-3: 5, 1: 1}), {0: 10, 4: 2})
        self.assertEqual(multiplied({LARGE: LARGE}, {LARGE: LARGE}), {2 * LARGE: LARGE * LARGE})

    def test_each_with_each(self):
        for one in TABLES:
            for other in TABLES:
                told = multiplied(one, other)
                self.assertIs(type(told), dict)
                self.assertEqual(told, plain_product(one, other))
                self.assertEqual(multiplied(other, one), told)

    def test_no_table(self):
        for thing in NO_TABLES + NO_NUMBERS:
            self.assertIs(refused(multiplied, thing, {0: 1}), NoTable, thing)
            self.assertIs(refused(multiplied, {0: 1}, thing), NoTable, thing)
            self.assertIs(refused(multiplied, thing, thing), NoTable, thing)


class Shifted(unittest.TestCase):
    def test_told_ones(self):
        self.assertEqual(shifted({0: 1}, 5), {5: 1})
        self.assertEqual(shifted({3: 2, -3: 7}, -3), {0: 2, -6: 7})
        self.assertEqual(shifted({3: 2, -3: 7}, 0), {3: 2, -3: 7})

    def test_as_multiplied_with_one_worth(self):
        for table in TABLES:
            for by in (-LARGE, -7, -1, 0, 1, 2, LARGE):
                self.assertEqual(shifted(table, by), {reached + by: many for reached, many in table.items()})
                self.assertEqual(shifted(table, by), multiplied(table, {by: 1}))

    def test_refused(self):
        for by in NO_NUMBERS:
            self.assertIs(refused(shifted, {0: 1}, by), NoNumber, by)
        for table in NO_TABLES:
            for by in (0, 1, -1, None, True, "1"):
                self.assertIs(refused(shifted, table, by), NoTable, table)


class TakenOut(unittest.TestCase):
    def test_told_ones(self):
        self.assertEqual(taken_out({1: 1, -1: 1}, 1), {0: 1})
        self.assertEqual(taken_out({2: 1, 0: 2, -2: 1}, 1), {1: 1, -1: 1})
        self.assertIsNone(taken_out({2: 1, 0: 2, -2: 1}, 2))
        self.assertIsNone(taken_out({0: 1}, 1))
        self.assertEqual(taken_out({10: 3, 4: 3}, 3), {7: 3})
        self.assertIsNone(taken_out({10: 3, 4: 2}, 3))
        self.assertIsNone(taken_out({10: 2, 4: 3}, 3))
        self.assertEqual(taken_out({LARGE: 1, -LARGE: 1}, LARGE), {0: 1})
        self.assertEqual(part_taken_out({1: 1, 0: 1, -1: 1}, 1), {0: 1})
        self.assertEqual(part_taken_out({2: 1, 1: 2, 0: 3, -1: 2, -2: 1}, 1), {1: 1, 0: 1, -1: 1})
        self.assertIsNone(part_taken_out({1: 1, -1: 1}, 1))
        self.assertIsNone(part_taken_out({0: 1}, 5))
        self.assertEqual(part_taken_out({9: 4, 6: 4, 3: 4}, 3), {6: 4})

    def test_none_where_a_number_below_0_would_stand(self):
        # With numbers below 0 there would be a table: {-2: 1, 0: -1, 2: 1} and so on.
        self.assertIsNone(taken_out({-3: 1, 3: 1}, 1))
        self.assertIsNone(part_taken_out({-3: 1, -1: 1, 1: 1, 3: 1, 0: 1, 2: 1}, 1))
        self.assertIsNone(part_taken_out({-3: 1, 0: 1, 3: 1}, 1))

    def test_against_all_small_tables(self):
        for number in (1, 2, 3):
            for function, divisor in (
                (taken_out, {number: 1, -number: 1}), (part_taken_out, {number: 1, 0: 1, -number: 1}),
            ):
                came = {}
                for other in small_tables(range(-2, 3), 2):
                    product_of_both = plain_product(other, divisor)
                    self.assertEqual(function(product_of_both, number), other)
                    came[tuple(sorted(product_of_both.items()))] = other
                for table in small_tables(range(-3, 4), 2):
                    self.assertEqual(function(table, number), came.get(tuple(sorted(table.items()))), (table, number))

    def test_large_ones(self):
        for other in TABLES:
            for number in (1, 2, 7, LARGE):
                signs = multiplied(other, {number: 1, -number: 1})
                parts = multiplied(other, {number: 1, 0: 1, -number: 1})
                self.assertEqual(taken_out(signs, number), other)
                self.assertEqual(part_taken_out(parts, number), other)
                for table, function in ((signs, taken_out), (parts, part_taken_out)):
                    changed = dict(table)
                    changed[max(changed)] += 1
                    self.assertIsNone(function(changed, number))

    def test_refused(self):
        for function in (taken_out, part_taken_out):
            for number in NEVER_FROM_ONE:
                self.assertIs(refused(function, {1: 1, -1: 1}, number), NoNumber, number)
            for table in NO_TABLES:
                for number in (1, 0, -1, None, True, "1"):
                    self.assertIs(refused(function, table, number), NoTable, table)


class WhatFollows(unittest.TestCase):
    def test_tables_of_joined_rows(self):
        for one in MORE_ROWS[:12] + [()]:
            for other in [(), (1,), (3, 3), (2, 4, 6), (LARGE, 1)]:
                both = joined(one, other)
                self.assertEqual(sign_table(both), multiplied(sign_table(one), sign_table(other)))
                self.assertEqual(part_table(both), multiplied(part_table(one), part_table(other)))

    def test_tables_of_mixed_and_grown_rows(self):
        for row in ROWS:
            for order in orders_about(row):
                self.assertEqual(sign_table(mixed(row, order)), sign_table(row))
                self.assertEqual(part_table(mixed(row, order)), part_table(row))
            for by in (1, 2, 7, LARGE):
                for table in (sign_table, part_table):
                    expected = {reached * by: many for reached, many in table(row).items()}
                    self.assertEqual(table(grown(row, by)), expected)

    def test_tables_of_rows_without_a_number(self):
        for row in ROWS + [TEN]:
            for place, number in enumerate(row):
                left = without(row, place)
                self.assertEqual(taken_out(sign_table(row), number), sign_table(left), (row, place))
                self.assertEqual(part_taken_out(part_table(row), number), part_table(left), (row, place))


if __name__ == "__main__":
    unittest.main()
