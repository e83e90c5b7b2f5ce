import unittest
from itertools import combinations, product

from plusless.errors import NoNumber, NoRow, NoSigns, TooMany
from plusless.evenness import unevenness
from plusless.inturn import calm, calm_many, is_swing_paper, leaning, least_swing, swing, swing_paper
from plusless.rows import turned
from samples import (
    ALL_ROWS, ELEVEN, LARGE, MORE_ROWS, NEVER_PARTS, NO_NUMBERS, NO_ROWS, SIXTEENS, SMALL_ROWS, TEN,
    all_parts, all_signs, plain_swing, refused, signs_by_swing, some_parts,
)

SHORT_ROWS = SMALL_ROWS + MORE_ROWS + [TEN]
LONG_ROWS = [tuple(range(1, 12)), (5,) * 13, SIXTEENS[0], SIXTEENS[2], SIXTEENS[4]]


def numbers_about_swings(row):
    """Numbers below 0, all swings, and the numbers beside them."""
    near = {-LARGE, -2, -1, 0, 1, max(row, default=0), sum(row), sum(row) + 1, LARGE * 20}
    for swung in signs_by_swing(row):
        near.update((swung - 1, swung, swung + 1))
    return sorted(near)


def with_layer(paper, place, layer):
    return paper[:place] + [layer] + paper[place + 1:]


def shows(paper, row, number):
    """Whether a list of rising tuples of whole numbers is a swing paper by the words of the document."""
    if len(paper) != len(row) + 1 or len(paper[-1]) > 0:
        return False
    if number >= 0 and 0 not in paper[0]:
        return False
    for place, step in enumerate(row):
        for s in paper[place]:
            for there in (s - step, s + step):
                if -number <= there <= number and there not in paper[place + 1]:
                    return False
    return True


class Swing(unittest.TestCase):
    def test_told_ones(self):
        self.assertEqual(swing((), ()), 0)
        self.assertEqual(swing((7,), (-1,)), 7)
        self.assertEqual(swing((3, 5), (1, 1)), 8)
        self.assertEqual(swing((3, 5), (1, -1)), 3)
        self.assertEqual(swing((3, 5, 7), (-1, -1, 1)), 8)
        self.assertEqual(swing((3, 5, 7), (1, -1, 1)), 5)
        self.assertEqual(swing((LARGE,) * 16, (-1,) * 16), 16 * LARGE)

    def test_against_all_beginnings(self):
        for row in ALL_ROWS + SIXTEENS:
            for signs in [parts for parts in some_parts(row) if 0 not in parts]:
                self.assertEqual(swing(row, signs), plain_swing(row, signs), (row, signs))

    def test_no_signs(self):
        for row in ((1,), (2, 3), (2, 3, 4), (1,) * 16):
            for thing in NEVER_PARTS + [(0,) * len(row), (1,) * (len(row) - 1) + (0,), (1,) * (len(row) + 1), [1] * len(row)]:
                self.assertIs(refused(swing, row, thing), NoSigns, (row, thing))
        for thing in NEVER_PARTS:
            if thing != ():
                self.assertIs(refused(swing, (), thing), NoSigns, thing)

    def test_parts_that_are_no_signs(self):
        for row in SMALL_ROWS:
            for parts in all_parts(row):
                self.assertIs(refused(swing, row, parts), NoSigns if 0 in parts else None, (row, parts))

    def test_a_truth_is_no_sign(self):
        for place in range(3):
            signs = [1, 1, 1]
            signs[place] = True
            self.assertIs(refused(swing, (1, 2, 3), tuple(signs)), NoSigns)

    def test_no_row_ahead_of_no_signs(self):
        for row in NO_ROWS:
            for signs in ((), (1,), (0,), None, [1], (1,) * 17):
                self.assertIs(refused(swing, row, signs), NoRow, (row, signs))


class Calm(unittest.TestCase):
    def test_told_ones(self):
        for row, least, first in (
            ((), 0, ()), ((7,), 7, (-1,)), ((3, 5), 3, (-1, 1)), ((5, 3), 5, (-1, 1)), ((1, 1), 1, (-1, 1)),
            ((2, 4, 6), 4, (-1, 1, -1)), ((4, 2, 6), 4, (-1, 1, 1)), ((1,) * 16, 1, (-1, 1) * 8),
            ((LARGE, LARGE), LARGE, (-1, 1)),
        ):
            self.assertEqual((least_swing(row), calm(row)), (least, first), row)

    def test_against_all_signs(self):
        for row in SHORT_ROWS + LONG_ROWS:
            found = signs_by_swing(row)
            self.assertEqual(least_swing(row), min(found), row)
            self.assertEqual(calm(row), found[min(found)][0], row)
            self.assertIs(type(calm(row)), tuple)

    def test_the_swing_of_calm_signs(self):
        for row in ALL_ROWS + SIXTEENS:
            self.assertEqual(swing(row, calm(row)), least_swing(row), row)

    def test_short_rows_of_all_sorts(self):
        for many in range(6):
            for row in product((1, 2, 5), repeat=many):
                found = signs_by_swing(row)
                self.assertEqual((least_swing(row), calm(row)), (min(found), found[min(found)][0]), row)


class Many(unittest.TestCase):
    def test_told_ones(self):
        self.assertEqual([calm_many((), number) for number in (-1, 0, 1)], [0, 1, 1])
        self.assertEqual([calm_many((7,), number) for number in (-7, 0, 6, 7, 8)], [0, 0, 0, 2, 2])
        self.assertEqual([calm_many((3, 5), number) for number in (2, 3, 7, 8)], [0, 2, 2, 4])
        self.assertEqual(calm_many((1,) * 16, 1), 256)
        self.assertEqual(calm_many((LARGE,) * 16, 16 * LARGE), 65536)

    def test_against_all_signs(self):
        for row in SHORT_ROWS + LONG_ROWS[:2]:
            found = signs_by_swing(row)
            for number in numbers_about_swings(row)[:200]:
                expected = sum([len(signs) for swung, signs in found.items() if swung <= number])
                self.assertEqual(calm_many(row, number), expected, (row, number))

    def test_sixteen_numbers(self):
        for row in LONG_ROWS[2:]:
            found = signs_by_swing(row)
            for number in (-1, 0, min(found) - 1, min(found), sorted(found)[len(found) // 2], max(found) - 1, max(found)):
                expected = sum([len(signs) for swung, signs in found.items() if swung <= number])
                self.assertEqual(calm_many(row, number), expected, (row, number))

    def test_some_just_from_the_least_swing_on(self):
        for row in ALL_ROWS:
            least = least_swing(row)
            self.assertEqual(calm_many(row, least - 1), 0, row)
            self.assertGreater(calm_many(row, least), 0, row)


class Leaning(unittest.TestCase):
    def test_told_ones(self):
        self.assertEqual(leaning(()), ())
        self.assertEqual(leaning((7,)), (1,))
        self.assertEqual(leaning((3, 5, 7)), (1, -1, 1))
        self.assertEqual(leaning((3, 3, 3)), (1, -1, 1))
        self.assertEqual(leaning((5, 3, 1, 9)), (1, -1, -1, -1))
        self.assertEqual(leaning((2, 7, 1, 1)), (1, -1, 1, 1))
        self.assertEqual(leaning((1,) * 16), (1, -1) * 8)

    def test_by_the_words(self):
        for row in ALL_ROWS + SIXTEENS:
            signs = leaning(row)
            self.assertIs(type(signs), tuple)
            self.assertEqual(len(signs), len(row))
            reached = 0
            for number, sign in zip(row, signs):
                self.assertEqual(sign, -1 if reached > 0 else 1, row)
                reached += number * sign
            self.assertLessEqual(plain_swing(row, signs), max(row, default=0))


class Papers(unittest.TestCase):
    def test_told_ones(self):
        self.assertEqual(swing_paper((), -1), [()])
        self.assertIsNone(swing_paper((), 0))
        self.assertEqual(swing_paper((3,), 2), [(0,), ()])
        self.assertIsNone(swing_paper((3,), 3))
        self.assertEqual(swing_paper((3,), -1), [(), ()])
        self.assertEqual(swing_paper((3, 7), 3), [(0,), (-3, 3), ()])
        self.assertIsNone(swing_paper((1, 1, 5), 3))
        self.assertEqual(swing_paper((1, 1, 5), 2), [(0,), (-1, 1), (-2, 0, 2), ()])
        self.assertEqual(swing_paper((7, 1), 3), [(0,), (), ()])

    def test_what_beginnings_reach(self):
        for row in SHORT_ROWS:
            for number in numbers_about_swings(row)[:60]:
                told = swing_paper(row, number)
                if calm_many(row, number) > 0:
                    self.assertIsNone(told, (row, number))
                    continue
                expected = []
                for many in range(len(row) + 1):
                    ahead = row[:many]
                    near = [signs for swung, all_of in signs_by_swing(ahead).items() if swung <= number for signs in all_of]
                    reached = {sum([n * sign for n, sign in zip(ahead, signs)]) for signs in near}
                    expected.append(tuple(sorted(reached)))
                self.assertEqual(told, expected, (row, number))
                self.assertIs(is_swing_paper(told, row, number), True, (row, number))

    def test_told_just_where_all_signs_swing_further(self):
        for row in SHORT_ROWS:
            least = min(signs_by_swing(row))
            for number in numbers_about_swings(row):
                self.assertIs(swing_paper(row, number) is None, number >= least, (row, number))

    def test_every_list_of_small_tuples(self):
        numbers = range(-2, 3)
        tuples = [chosen for many in range(6) for chosen in combinations(numbers, many)]
        for row in ((), (1,), (2,), (3,), (1, 2), (2, 1), (1, 1), (3, 1)):
            for number in (-1, 0, 1, 2):
                papers = []
                for layers in product(tuples, repeat=len(row)):
                    for last in ((), (0,), (-1, 2)):
                        paper = list(layers) + [last]
                        expected = shows(paper, row, number)
                        self.assertIs(is_swing_paper(paper, row, number), expected, (paper, row, number))
                        if expected:
                            papers.append(paper)
                told = swing_paper(row, number)
                self.assertEqual(papers == [], told is None, (row, number))
                if papers:
                    self.assertEqual(min(papers, key=lambda paper: sum(map(len, paper))), told)
                    self.assertEqual(calm_many(row, number), 0)

    def test_other_numbers_may_stand_there(self):
        self.assertIs(is_swing_paper([(0, 9), ()], (3,), 2), True)
        self.assertIs(is_swing_paper([(0, 4), ()], (3,), 2), False)
        self.assertIs(is_swing_paper([(0,), (-3, 3, 50), ()], (3, 7), 3), True)
        self.assertIs(is_swing_paper([(0,), (-3, 3, 5), ()], (3, 7), 3), False)
        self.assertIs(is_swing_paper([(0,), (-3, 2, 3), ()], (3, 7), 3), True)
        self.assertIs(is_swing_paper([(0,), (-3, 3, 10), ()], (3, 7), 3), False)
        self.assertIs(is_swing_paper([(5,), ()], (3,), -1), True)
        self.assertIs(is_swing_paper([(5, 7), (0, 1, LARGE), ()], (3, 2), -1), True)
        self.assertIs(is_swing_paper([(), ()], (3,), 0), False)

    def test_ten_numbers(self):
        for row in (TEN, (LARGE,) * 10, (1,) * 9 + (5,)):
            least = least_swing(row)
            told = swing_paper(row, least - 1)
            self.assertEqual(len(told), 11)
            self.assertIs(is_swing_paper(told, row, least - 1), True)
            self.assertIs(is_swing_paper(told, row, least), False)
            self.assertIsNone(swing_paper(row, least))


class Changed(unittest.TestCase):
    rows = [(), (1,), (2, 1), (3, 5), (1, 1, 4), (2, 4, 6), (5, 1, 8, 2), (LARGE, 1, LARGE), (1, 1, 1, 1, 7)]

    def each_told(self):
        for row in self.rows:
            for number in sorted({-3, -1, 0, 1, 2, least_swing(row) - 1}):
                told = swing_paper(row, number)
                if told is not None:
                    yield told, row, number

    def assert_not(self, thing, row, number):
        self.assertIs(is_swing_paper(thing, row, number), False, (thing, row, number))

    def test_a_number_left_out(self):
        for told, row, number in self.each_told():
            for place, layer in enumerate(told):
                for at in range(len(layer)):
                    self.assert_not(with_layer(told, place, layer[:at] + layer[at + 1:]), row, number)

    def test_a_number_put_in(self):
        seen = set()
        for told, row, number in self.each_told():
            for place, layer in enumerate(told):
                near = {s + more for s in layer + (number,) for more in (-3, -1, 0, 1, 3)} | {LARGE * 100}
                for new in sorted(near - set(layer)):
                    wider = with_layer(told, place, tuple(sorted(layer + (new,))))
                    expected = shows(wider, row, number)
                    self.assertIs(is_swing_paper(wider, row, number), expected, (wider, row, number))
                    seen.add(expected)
        self.assertEqual(seen, {True, False})

    def test_a_number_twice_or_from_behind(self):
        for told, row, number in self.each_told():
            for place, layer in enumerate(told):
                for s in layer:
                    self.assert_not(with_layer(told, place, tuple(sorted(layer + (s,)))), row, number)
                if len(layer) > 1:
                    self.assert_not(with_layer(told, place, layer[::-1]), row, number)

    def test_a_truth_or_another_thing(self):
        for told, row, number in self.each_told():
            for place, layer in enumerate(told):
                for at, s in enumerate(layer):
                    things = [None, str(s), [s], (s,), {s: s}]
                    if s in (0, 1):
                        things.append(bool(s))
                    for thing in things:
                        self.assert_not(with_layer(told, place, layer[:at] + (thing,) + layer[at + 1:]), row, number)
                for thing in (list(layer), dict.fromkeys(layer), str(layer), None, True, False, 0, "", [], (layer,), {}):
                    self.assert_not(with_layer(told, place, thing), row, number)

    def test_a_tuple_left_out_or_put_in(self):
        for told, row, number in self.each_told():
            self.assert_not(tuple(told), row, number)
            self.assert_not(dict(enumerate(told)), row, number)
            for place in range(len(told) + 1):
                self.assert_not(told[:place] + [()] + told[place:], row, number)
                self.assert_not(told[:place] + told[place + 1:] + [()] * (place == len(told)), row, number)

    def test_things_of_other_kinds(self):
        for row in self.rows:
            for number in (-1, 0, least_swing(row) - 1, least_swing(row)):
                for thing in NO_NUMBERS + NO_ROWS + [0, (), (0,), [(0,)] * (len(row) + 1), [None], [0], [[]], ((),), [""]]:
                    self.assert_not(thing, row, number)


class Refused(unittest.TestCase):
    things = [None, True, 2, "x", [], [()], [(0,), ()], (), {}]

    def test_more_than_ten_numbers(self):
        for row in (ELEVEN, (1,) * 16, tuple(range(1, 12)), (9,) * 12):
            for number in (-1, 0, 1, 50, LARGE):
                self.assertIs(refused(swing_paper, row, number), TooMany)
                for thing in self.things + [[()] * (len(row) + 1)]:
                    self.assertIs(refused(is_swing_paper, thing, row, number), TooMany)
            for thing in NO_NUMBERS:
                self.assertIs(refused(swing_paper, row, thing), NoNumber)
                self.assertIs(refused(is_swing_paper, [()], row, thing), NoNumber)
        for row in NO_ROWS:
            for number in (0, None, True):
                self.assertIs(refused(swing_paper, row, number), NoRow)
                self.assertIs(refused(is_swing_paper, [()], row, number), NoRow)

    def test_the_others_take_sixteen(self):
        for row in (ELEVEN, (1,) * 16):
            self.assertEqual((least_swing(row), swing(row, calm(row)), swing(row, leaning(row))), (1, 1, 1))
            self.assertEqual(calm_many(row, 0), 0)


class WhatFollows(unittest.TestCase):
    def test_between_the_unevenness_and_the_greatest_number(self):
        for row in ALL_ROWS + SIXTEENS + [TEN]:
            least = least_swing(row)
            greatest = max(row, default=0)
            self.assertGreaterEqual(least, unevenness(row), row)
            self.assertGreaterEqual(2 * least, greatest, row)
            self.assertLessEqual(least, greatest, row)

    def test_turned_about(self):
        for row in SMALL_ROWS + MORE_ROWS:
            for signs in all_signs(row):
                self.assertEqual(swing(row, signs), swing(row, turned(row, signs)))

    def test_no_less_than_that_of_the_first_numbers(self):
        for row in ALL_ROWS + SIXTEENS[:3]:
            swings = [least_swing(row[:many]) for many in range(len(row) + 1)]
            self.assertEqual(swings, sorted(swings), row)
            for signs in [parts for parts in some_parts(row) if 0 not in parts]:
                swung = [swing(row[:many], signs[:many]) for many in range(len(row) + 1)]
                self.assertEqual(swung, sorted(swung), (row, signs))


if __name__ == "__main__":
    unittest.main()
