import unittest
from itertools import product

from plusless.errors import NoNumber, NoRow, NoSigns
from plusless.evenness import evenest, unevenness
from plusless.halves import first_met, many_met
from plusless.pairs import (
    are_pairs, is_pair_rest, least_signs, least_size, pair_signs, pair_ways, pair_worth, wall_for, walls,
)
from plusless.tables import is_rest
from samples import (
    LARGE, MORE_ROWS, NEVER_PARTS, NO_GOALS, NO_NUMBERS, NO_PAIRS, NO_ROWS, PAIR_ROWS, SMALL_ROWS, TWELVE_PAIRS,
    all_signs, goals_about, numbers_about, plain_pair_worth, refused, signs_by_pair,
)

ROWS = PAIR_ROWS + [TWELVE_PAIRS]
WALLS = list(product(range(-3, 4), repeat=2)) + [(LARGE, 1), (-LARGE, LARGE)]
NO_WALLS = NO_GOALS + [(1, 0, 0), [1, 0], [(1, 0)], ((1, 0),), {1: 0}, "10"]


def plain_size(pair):
    return max(-pair[0], pair[0], -pair[1], pair[1])


def turn(ahead, middle, behind):
    return (middle[0] - ahead[0]) * (behind[1] - ahead[1]) - (middle[1] - ahead[1]) * (behind[0] - ahead[0])


def half_hull(points):
    hull = []
    for point in points:
        while len(hull) > 1 and turn(hull[-2], hull[-1], point) <= 0:
            hull.pop()
        hull.append(point)
    return hull


def hull_of(points):
    """The corners of the least shape without dents that has all points, turning to the left."""
    rising = sorted(points)
    if len(rising) < 2:
        return rising
    return half_hull(rising)[:-1] + half_hull(rising[::-1])[:-1]


def is_inside(goal, hull):
    if len(hull) == 1:
        return goal == hull[0]
    if len(hull) == 2:
        between = min(hull) <= goal <= max(hull)
        return between and turn(hull[0], hull[1], goal) == 0
    return all(turn(hull[place - 1], hull[place], goal) >= 0 for place in range(len(hull)))


class Known(unittest.TestCase):
    def test_rows_of_pairs(self):
        for pairs in ROWS + [((LARGE, -LARGE),) * many for many in range(13)]:
            self.assertIs(are_pairs(pairs), True, pairs)

    def test_what_is_none(self):
        for thing in NO_PAIRS:
            self.assertIs(are_pairs(thing), False, thing)
        for thing in NO_ROWS + NO_NUMBERS:
            if thing != ():
                self.assertIs(are_pairs(thing), False, thing)

    def test_a_wrong_thing_at_each_place(self):
        for place in range(12):
            for wrong in (None, True, 1, "12", (), (1,), (1, 2, 3), [1, 2], {1: 2}, (True, 2), (1, False), (1, "2"), ((1,), 2)):
                pairs = ((1, 2),) * place + (wrong,) + ((1, 2),) * (11 - place)
                self.assertIs(are_pairs(pairs), False, pairs)


class Worths(unittest.TestCase):
    def test_told_ones(self):
        self.assertEqual(pair_worth((), ()), (0, 0))
        self.assertEqual(pair_worth(((3, -5),), (-1,)), (-3, 5))
        self.assertEqual(pair_worth(((3, -5), (1, 1)), (1, -1)), (2, -6))
        self.assertEqual(pair_worth(((LARGE, -LARGE),) * 12, (1,) * 12), (12 * LARGE, -12 * LARGE))

    def test_against_plain_sums(self):
        for pairs in PAIR_ROWS:
            for signs in all_signs(pairs):
                self.assertEqual(pair_worth(pairs, signs), plain_pair_worth(pairs, signs), (pairs, signs))

    def test_no_signs(self):
        for pairs in (((1, 2),), ((1, 2), (3, 4)), ((0, 0),) * 3, TWELVE_PAIRS):
            many = len(pairs)
            for thing in NEVER_PARTS + [(0,) * many, (1,) * (many - 1) + (0,), (1,) * (many + 1), [1] * many, (1,) * 13]:
                self.assertIs(refused(pair_worth, pairs, thing), NoSigns, (pairs, thing))
            for place in range(many):
                for wrong in (0, 2, -2, True, None, "1", (1,)):
                    signs = (1,) * place + (wrong,) + (1,) * (many - place - 1)
                    self.assertIs(refused(pair_worth, pairs, signs), NoSigns, signs)
        for thing in NEVER_PARTS:
            if thing != ():
                self.assertIs(refused(pair_worth, (), thing), NoSigns, thing)


class Goals(unittest.TestCase):
    def test_told_ones(self):
        self.assertEqual((pair_ways((), (0, 0)), pair_signs((), (0, 0))), (1, ()))
        self.assertEqual((pair_ways((), (0, 1)), pair_signs((), (0, 1))), (0, None))
        self.assertEqual((pair_ways(((0, 0),), (0, 0)), pair_signs(((0, 0),), (0, 0))), (2, (-1,)))
        pairs = ((1, 1), (1, -1))
        self.assertEqual((pair_ways(pairs, (0, 2)), pair_signs(pairs, (0, 2))), (1, (1, -1)))
        self.assertEqual((pair_ways(pairs, (1, 1)), pair_signs(pairs, (1, 1))), (0, None))
        self.assertEqual((pair_ways(((1, 2),) * 12, (0, 0)), pair_signs(((1, 2),) * 12, (0, 0))), (924, (-1,) * 6 + (1,) * 6))

    def test_against_all_signs(self):
        for pairs in ROWS:
            found = signs_by_pair(pairs)
            for goal in goals_about(pairs):
                self.assertEqual(pair_ways(pairs, goal), len(found.get(goal, [])), (pairs, goal))
                self.assertEqual(pair_signs(pairs, goal), found.get(goal, [None])[0], (pairs, goal))

    def test_all_worths_together_are_all_signs(self):
        for pairs in PAIR_ROWS:
            found = signs_by_pair(pairs)
            self.assertEqual(sum([pair_ways(pairs, goal) for goal in found]), len(all_signs(pairs)))

    def test_the_first_of_many(self):
        for pairs in product(((0, 0), (1, 0), (-1, 1)), repeat=4):
            for goal, signs in signs_by_pair(pairs).items():
                self.assertEqual((pair_ways(pairs, goal), pair_signs(pairs, goal)), (len(signs), signs[0]), (pairs, goal))


class Sizes(unittest.TestCase):
    def test_told_ones(self):
        for pairs, least, first in (
            ((), 0, ()), (((3, -5),), 5, (-1,)), (((-7, 2),), 7, (-1,)), (((0, 0), (0, 0)), 0, (-1, -1)),
            (((1, 0), (0, 1)), 1, (-1, -1)), (((2, 4), (1, 2)), 2, (-1, 1)), (((1, 2),) * 12, 0, (-1,) * 6 + (1,) * 6),
        ):
            self.assertEqual((least_size(pairs), least_signs(pairs)), (least, first), pairs)

    def test_against_all_signs(self):
        short = list(product(((0, 0), (3, 1), (-1, 2), (2, -2)), repeat=3))
        for pairs in ROWS + short:
            found = signs_by_pair(pairs)
            least = min(plain_size(reached) for reached in found)
            self.assertEqual(least_size(pairs), least, pairs)
            even = [signs for reached, all_of in found.items() if plain_size(reached) == least for signs in all_of]
            self.assertEqual(least_signs(pairs), min(even), pairs)
            self.assertIs(type(least_signs(pairs)), tuple)


class Walls(unittest.TestCase):
    def test_told_ones(self):
        self.assertIs(walls((1, 0), ((3, 5),), (4, 0)), True)
        self.assertIs(walls((1, 0), ((3, 5),), (3, 0)), False)
        self.assertIs(walls((1, 0), ((3, 5),), (-4, 0)), True)
        self.assertIs(walls((0, 0), ((3, 5),), (4, 0)), False)
        self.assertIs(walls((5, -3), ((3, 5),), (1, 1)), True)
        self.assertIs(walls((1, 1), ((3, -3), (1, 1)), (2, 1)), True)
        self.assertIs(walls((1, 1), ((3, -3), (1, 1)), (1, 1)), False)
        self.assertIs(walls((0, 0), (), (1, 0)), False)
        self.assertIs(walls((1, 0), (), (1, 0)), True)

    def test_by_the_words(self):
        seen = set()
        for pairs in PAIR_ROWS:
            for goal in goals_about(pairs)[:60]:
                for u, v in WALLS[::3] + WALLS[-2:]:
                    beside = sum([abs(u * x + v * y) for x, y in pairs])
                    expected = abs(u * goal[0] + v * goal[1]) > beside
                    self.assertIs(walls((u, v), pairs, goal), expected, ((u, v), pairs, goal))
                    seen.add(expected)
                    if expected:
                        self.assertNotIn(goal, signs_by_pair(pairs))
        self.assertEqual(seen, {True, False})

    def test_things_of_whatever_kind(self):
        for pairs in PAIR_ROWS[:12]:
            for goal in ((0, 0), (50, 0), (LARGE * 9, 1), (1, LARGE * 9)):
                for thing in NO_WALLS:
                    self.assertIs(walls(thing, pairs, goal), False, (thing, pairs, goal))

    def test_a_wall_told_just_where_there_is_one(self):
        seen = set()
        for pairs in ROWS + list(product(((0, 0), (3, 1), (-1, 2), (2, -2), (6, 2)), repeat=3)):
            hull = hull_of(signs_by_pair(pairs))
            for goal in goals_about(pairs):
                told = wall_for(pairs, goal)
                inside = is_inside(goal, hull)
                seen.add((inside, goal in signs_by_pair(pairs)))
                self.assertEqual(told is None, inside, (pairs, goal))
                if told is not None:
                    self.assertIs(type(told), tuple)
                    self.assertIs(walls(told, pairs, goal), True, (told, pairs, goal))
                    self.assertEqual(pair_ways(pairs, goal), 0)
        self.assertEqual(seen, {(True, True), (True, False), (False, False)})

    def test_all_goals_about_small_rows(self):
        for pairs in ((), ((0, 0),), ((1, 2),), ((2, 4), (1, 2)), ((0, 2), (0, 3)), ((2, 0), (-1, 0)), ((1, 1), (2, -1), (0, 2))):
            hull = hull_of(signs_by_pair(pairs))
            for goal in product(range(-8, 9), repeat=2):
                told = wall_for(pairs, goal)
                self.assertEqual(told is None, is_inside(goal, hull), (pairs, goal))
                self.assertTrue(told is None or walls(told, pairs, goal), (pairs, goal))
                if told is None:
                    self.assertFalse(any([walls(tried, pairs, goal) for tried in WALLS]), (pairs, goal))


class Rests(unittest.TestCase):
    def test_told_ones(self):
        self.assertIs(is_pair_rest((1, 0, 2), ((1, 0),), (0, 0)), True)
        self.assertIs(is_pair_rest((1, 0, 2), ((1, 0),), (1, 0)), False)
        self.assertIs(is_pair_rest((1, 0, 1), ((1, 0),), (0, 0)), False)
        self.assertIs(is_pair_rest((1, 1, 4), ((1, 1), (3, -1)), (1, 0)), True)
        self.assertIs(is_pair_rest((1, 1, 4), ((1, 1), (3, -1)), (4, 0)), False)
        self.assertIs(is_pair_rest((1, 1, 8), ((1, 1), (3, -1)), (1, 0)), False)
        self.assertIs(is_pair_rest((1, 0, 7), (), (3, 0)), True)
        self.assertIs(is_pair_rest((0, 1, 7), (), (3, 0)), False)
        self.assertIs(is_pair_rest((0, 0, 2), ((1, 2),), (0, 0)), False)

    def test_by_the_words(self):
        seen = set()
        for pairs in PAIR_ROWS:
            for goal in goals_about(pairs)[:40]:
                for u, v, m in product((-2, 0, 1, 3), (-1, 0, 2), (-2, 0, 1, 2, 3, 4, 6)):
                    expected = m >= 2 and all([(2 * (u * x + v * y)) % m == 0 for x, y in pairs])
                    if expected:
                        left = u * (sum([x for x, y in pairs]) - goal[0]) + v * (sum([y for x, y in pairs]) - goal[1])
                        expected = left % m != 0
                    self.assertIs(is_pair_rest((u, v, m), pairs, goal), expected, ((u, v, m), pairs, goal))
                    seen.add(expected)
                    if expected:
                        self.assertNotIn(goal, signs_by_pair(pairs))
        self.assertEqual(seen, {True, False})

    def test_things_of_whatever_kind(self):
        things = NO_GOALS + [(1, 0), (1, 0, 2, 2), (1, 0, True), (True, 0, 2), (1, False, 2), (1, 0, -2), (1, 0, 1), (1, 0, 0)]
        things += [[1, 0, 2], (1, 0, "2"), (1, 0, None), (None, 0, 2), (1, (0,), 2), ((1, 0), 2), ((1, 0, 2),), {1: 0}, "102"]
        for pairs in ((), ((1, 0),), ((2, 4), (6, 8))):
            for goal in ((0, 0), (1, 1), (3, 0), (0, 3)):
                for thing in [thing for thing in things if thing != (1, 2, 3)]:
                    self.assertIs(is_pair_rest(thing, pairs, goal), False, (thing, pairs, goal))


class Refused(unittest.TestCase):
    alone = (least_size, least_signs)
    with_goal = (pair_ways, pair_signs, wall_for)
    thing_first = (walls, is_pair_rest)

    def test_no_row_ahead_of_all_else(self):
        for pairs in NO_PAIRS:
            for function in self.alone:
                self.assertIs(refused(function, pairs), NoRow, pairs)
            for other in ((0, 0), (1,), None, True, (), [1, 2], (1,) * 13):
                self.assertIs(refused(pair_worth, pairs, other), NoRow, pairs)
                for function in self.with_goal:
                    self.assertIs(refused(function, pairs, other), NoRow, pairs)
                for function in self.thing_first:
                    self.assertIs(refused(function, (1, 0), pairs, other), NoRow, pairs)
                    self.assertIs(refused(function, None, pairs, other), NoRow, pairs)

    def test_no_number_next(self):
        for goal in NO_GOALS:
            for pairs in ((), ((1, 2),), TWELVE_PAIRS):
                for function in self.with_goal:
                    self.assertIs(refused(function, pairs, goal), NoNumber, goal)
                for function in self.thing_first:
                    for thing in ((1, 0), (1, 0, 2), None, [], "x"):
                        self.assertIs(refused(function, thing, pairs, goal), NoNumber, goal)

    def test_twelve_are_not_refused(self):
        for function in self.alone:
            self.assertIsNone(refused(function, TWELVE_PAIRS))
        self.assertIsNone(refused(pair_worth, TWELVE_PAIRS, (1,) * 12))
        for function in self.with_goal:
            self.assertIsNone(refused(function, TWELVE_PAIRS, (0, 0)))


class WhatFollows(unittest.TestCase):
    def test_with_all_y_0_as_with_a_row(self):
        for row in SMALL_ROWS + MORE_ROWS:
            flat = tuple([(number, 0) for number in row])
            steep = tuple([(0, number) for number in row])
            self.assertEqual((least_size(flat), least_signs(flat)), (unevenness(row), evenest(row)))
            self.assertEqual((least_size(steep), least_signs(steep)), (unevenness(row), evenest(row)))
            for number in numbers_about(row)[:40]:
                self.assertEqual(pair_ways(flat, (number, 0)), many_met(row, number))
                self.assertEqual(pair_signs(flat, (number, 0)), first_met(row, number))
                self.assertEqual(pair_ways(flat, (number, 1)), 0)
                self.assertEqual(wall_for(flat, (number, 0)) is None, -sum(row) <= number <= sum(row))
                for m in (1, 2, 3, 4, 10):
                    self.assertEqual(is_pair_rest((1, 0, m), flat, (number, 0)), len(row) < 11 and is_rest(m, row, number))

    def test_pairs_turned_about(self):
        for pairs in [pairs for pairs in PAIR_ROWS if len(pairs) < 6]:
            for turned in product((1, -1), repeat=len(pairs)):
                other = tuple([(x * sign, y * sign) for (x, y), sign in zip(pairs, turned)])
                self.assertEqual(least_size(other), least_size(pairs))
                for goal in goals_about(pairs)[:20]:
                    self.assertEqual(pair_ways(other, goal), pair_ways(pairs, goal), (pairs, turned, goal))

    def test_both_numbers_exchanged(self):
        for pairs in ROWS:
            other = tuple([(y, x) for x, y in pairs])
            self.assertEqual(least_size(other), least_size(pairs))
            self.assertEqual(least_signs(other), least_signs(pairs))
            for x, y in goals_about(pairs)[:20]:
                self.assertEqual(pair_ways(other, (y, x)), pair_ways(pairs, (x, y)))


if __name__ == "__main__":
    unittest.main()
