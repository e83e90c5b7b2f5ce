"""What the document promises over the whole program: point 6, and where the points of several stages meet."""

import unittest
from itertools import product

from plusless import changes, evenness, every, halves, inturn, pairs, rows, tables, texts
from plusless.desk import Desk
from plusless.keeper import Keeper
from samples import (
    ALL_ROWS, LARGE, MORE_ROWS, SIXTEENS, SMALL_ROWS, TEN, all_parts, numbers_about, plain_worth, signs_by_swing, signs_by_worth,
)

SHORT_ROWS = SMALL_ROWS + MORE_ROWS + [TEN]


def some_numbers(row, most):
    numbers = numbers_about(row)
    return numbers[::1 + len(numbers) // most]


def is_seen_by_layers(layers, row, number):
    """Going along the row by hand: the number is nowhere among all that can be reached."""
    if 0 not in layers[0]:
        return False
    for place, step in enumerate(row):
        for s in layers[place]:
            if s + step not in layers[place + 1] or s - step not in layers[place + 1]:
                return False
    return number not in layers[len(row)]


class SignsOrPaper(unittest.TestCase):
    def test_of_short_rows(self):
        for row in SHORT_ROWS:
            for number in some_numbers(row, 60):
                signs = tables.signs_to(row, number)
                layers = tables.layers_for(row, number)
                stair = halves.stair_for(row, number)
                self.assertEqual(signs is None, layers is not None, (row, number))
                self.assertEqual(signs is None, stair is not None, (row, number))
                self.assertEqual(signs, halves.first_met(row, number), (row, number))
                if signs is None:
                    self.assertIs(tables.is_barred(layers, row, number), True)
                    self.assertTrue(is_seen_by_layers(layers, row, number))
                    self.assertIs(halves.is_stair(stair, row, number), True)
                else:
                    self.assertIs(rows.are_signs(signs, row), True)
                    self.assertEqual(rows.worth(row, signs), number)

    def test_of_long_rows(self):
        for row in SIXTEENS:
            for number in some_numbers(row, 20):
                signs = halves.first_met(row, number)
                stair = halves.stair_for(row, number)
                self.assertEqual(signs is None, number not in signs_by_worth(row))
                if signs is None:
                    self.assertIs(halves.is_stair(stair, row, number), True)
                else:
                    self.assertIsNone(stair)
                    self.assertEqual(rows.worth(row, signs), number)

    def test_a_paper_of_whoever_made_it(self):
        # Among all layers of small numbers none bars what signs come to.
        layers = [tuple([n for n, taken in zip(range(-2, 3), chosen) if taken]) for chosen in product((0, 1), repeat=5)]
        seen = 0
        for row in ((), (1,), (2,), (1, 1)):
            for paper in product(layers, repeat=len(row) + 1):
                for number in (-2, -1, 0, 1, 2):
                    if tables.is_barred(list(paper), row, number):
                        seen += 1
                        self.assertTrue(is_seen_by_layers(paper, row, number))
                        self.assertNotIn(number, signs_by_worth(row))
        self.assertGreater(seen, 50)

    def test_parts_or_wide_layers(self):
        for row in SMALL_ROWS + MORE_ROWS[:10]:
            reached = {plain_worth(row, parts) for parts in all_parts(row)}
            for number in some_numbers(row, 40):
                parts = tables.parts_to(row, number)
                paper = tables.wide_layers_for(row, number)
                self.assertEqual((parts is None, paper is None), (number not in reached, number in reached))
                self.assertTrue(paper is None or tables.is_wide_barred(paper, row, number))
                self.assertTrue(parts is None or rows.worth(row, parts) == number)


class ManyAlike(unittest.TestCase):
    def test_by_tables_and_by_halves(self):
        for row in SHORT_ROWS:
            keeper = Keeper()
            for number in row:
                keeper.put(number)
            table = tables.sign_table(row)
            self.assertEqual(keeper.worths_many(), len(table))
            for number in some_numbers(row, 40):
                many = len(signs_by_worth(row).get(number, []))
                told = (tables.sign_ways(row, number), halves.many_met(row, number), keeper.ways(number), table.get(number, 0))
                self.assertEqual(told, (many,) * 4, (row, number))

    def test_joined_grown_and_mixed_rows_by_halves(self):
        for row in MORE_ROWS[:14]:
            both = changes.joined(row, (2, 3, 5))
            table = changes.multiplied(tables.sign_table(row), tables.sign_table((2, 3, 5)))
            self.assertEqual({number: halves.many_met(both, number) for number in table}, table)
            twisted = changes.mixed(both, tuple(reversed(range(len(both)))))
            self.assertEqual({number: halves.many_met(twisted, number) for number in table}, table)
            self.assertEqual(evenness.unevenness(changes.grown(row, 6)), 6 * evenness.unevenness(row))
            self.assertEqual(inturn.least_swing(changes.grown(row, 6)), 6 * inturn.least_swing(row))


class NoneMoreEven(unittest.TestCase):
    def test_no_signs_are(self):
        for row in ALL_ROWS + SIXTEENS:
            found = signs_by_worth(row)
            signs = evenness.evenest(row)
            self.assertEqual(abs(rows.worth(row, signs)), min(abs(reached) for reached in found), row)
            self.assertEqual(abs(rows.worth(row, signs)), evenness.unevenness(row))
            self.assertLessEqual(evenness.unevenness(row), abs(rows.worth(row, inturn.calm(row))))
            self.assertLessEqual(evenness.unevenness(row), abs(rows.worth(row, inturn.leaning(row))))
            self.assertLessEqual(evenness.unevenness(row), rows.worth(row, evenness.difference_signs(row)))

    def test_by_a_paper(self):
        for row in SHORT_ROWS:
            self.assertEqual(evenness.uneven_bound(evenness.uneven_paper(row), row), evenness.unevenness(row))

    def test_none_swing_less_than_the_calm_ones(self):
        for row in SHORT_ROWS:
            least = inturn.least_swing(row)
            self.assertEqual(least, min(signs_by_swing(row)))
            self.assertIs(inturn.is_swing_paper(inturn.swing_paper(row, least - 1), row, least - 1), True)


class EveryWorth(unittest.TestCase):
    def test_just_where_the_rule_says_so(self):
        for many in range(5):
            for row in product((1, 2, 3, 4, 7), repeat=many):
                reached = {plain_worth(row, parts) for parts in all_parts(row)}
                by_parts = all([number in reached for number in range(sum(row) + 1)])
                by_signs = all([number in signs_by_worth(row) for number in range(sum(row), -1, -2)])
                self.assertEqual((every.every_by_parts(row), every.every_by_signs(row)), (by_parts, by_signs), row)

    def test_what_is_missed_has_a_paper(self):
        for row in SHORT_ROWS:
            missed = every.missed_by_signs(row)
            self.assertEqual(missed is None, every.every_by_signs(row))
            if missed is not None:
                self.assertIsNotNone(tables.layers_for(row, missed), row)
            missed = every.missed_by_parts(row)
            self.assertEqual(missed is None, every.every_by_parts(row))
            if missed is not None and len(row) < 8:
                self.assertIsNotNone(tables.wide_layers_for(row, missed), row)


class AllTogether(unittest.TestCase):
    def test_a_desk_tells_what_the_modules_tell(self):
        for row in SMALL_ROWS + MORE_ROWS[:16] + [SIXTEENS[2]]:
            desk = Desk()
            for number in row:
                desk.say(f"put {number}")
            self.assertEqual(desk.say("total"), str(rows.total(row)))
            self.assertEqual(desk.say("even"), str(evenness.unevenness(row)))
            self.assertEqual(desk.say("swing"), str(inturn.least_swing(row)))
            for number in some_numbers(row, 10):
                if abs(number) <= LARGE:
                    signs = halves.first_met(row, number)
                    self.assertEqual(desk.say(f"signs {number}"), "none" if signs is None else texts.show(row, signs))

    def test_what_was_told_is_handed_in_again(self):
        row = (3, 5)
        for times in range(40):
            row = changes.grown(row, LARGE)
        goal = rows.worth(row, (1, -1))
        self.assertEqual(tables.signs_to(row, goal), (1, -1))
        self.assertEqual(halves.first_met(row, goal), (1, -1))
        self.assertEqual(texts.read(texts.show(row, (1, -1))), (row, (1, -1)))
        self.assertEqual(evenness.unevenness(row), -goal)
        self.assertEqual(inturn.least_swing(row), row[0])
        self.assertIs(inturn.is_swing_paper(inturn.swing_paper(row, row[0] - 1), row, row[0] - 1), True)
        flat = tuple([(number, 0) for number in row])
        self.assertEqual(pairs.pair_signs(flat, (goal, 0)), (1, -1))
        self.assertIs(pairs.walls(pairs.wall_for(flat, (2 * row[1], 0)), flat, (2 * row[1], 0)), True)
        self.assertEqual(changes.taken_out(tables.sign_table(row), row[0]), tables.sign_table(row[1:]))


if __name__ == "__main__":
    unittest.main()
