import unittest

from plusless.evenness import difference_signs, differences, evenest, evenest_many
from plusless.evenness import uneven_bound, uneven_paper, unevenness
from plusless.tables import is_barred, layers_for
from samples import (
    ALL_ROWS, LARGE, MORE_ROWS, NO_NUMBERS, NO_ROWS, SIXTEENS, SMALL_ROWS, TEN, plain_worth, signs_by_worth,
)

ROWS = ALL_ROWS + [TEN] + SIXTEENS
SHORT_ROWS = SMALL_ROWS + MORE_ROWS + [TEN]


def least_by_all(row):
    return min(abs(reached) for reached in signs_by_worth(row))


class Evenest(unittest.TestCase):
    def test_told_ones(self):
        for row, least, first, many in (
            ((), 0, (), 1), ((7,), 7, (-1,), 2), ((3, 5), 2, (-1, 1), 2), ((5, 3), 2, (-1, 1), 2),
            ((1, 2, 3), 0, (-1, -1, 1), 2), ((3, 5, 7), 1, (-1, -1, 1), 2), ((1, 1), 0, (-1, 1), 2),
            ((7, 3, 5), 1, (-1, 1, 1), 2), ((2, 2, 2), 2, (-1, -1, 1), 6), ((1,) * 16, 0, (-1,) * 8 + (1,) * 8, 12870),
            ((LARGE,) * 9, LARGE, (-1,) * 5 + (1,) * 4, 252),
        ):
            self.assertEqual((unevenness(row), evenest(row), evenest_many(row)), (least, first, many), row)

    def test_against_all_signs(self):
        for row in ROWS:
            found = signs_by_worth(row)
            least = least_by_all(row)
            self.assertEqual(unevenness(row), least, row)
            even = found.get(least, []) + (found.get(-least, []) if least else [])
            self.assertEqual(evenest(row), min(even), row)
            self.assertEqual(evenest_many(row), len(even), row)

    def test_the_first_of_both_opposite_worths(self):
        # The first ones have a worth below 0 in the one row, above 0 in the other.
        self.assertEqual(plain_worth((3, 5, 7), evenest((3, 5, 7))), -1)
        self.assertEqual(plain_worth((3, 5), evenest((3, 5))), 2)

    def test_what_follows(self):
        for row in SMALL_ROWS + MORE_ROWS + [(5,) * 13]:
            least = unevenness(row)
            self.assertEqual(least % 2, sum(row) % 2)
            self.assertLessEqual(least, max(row, default=0))
            for more in (1, 2, 9, LARGE):
                self.assertLessEqual(unevenness(row + (more,)), max(least, more))
            for times in (1, 2, 7, 10 ** 20):
                self.assertEqual(unevenness(tuple([number * times for number in row])), least * times)


class Differences(unittest.TestCase):
    def test_told_ones(self):
        self.assertEqual(differences(()), [()])
        self.assertEqual(differences((7,)), [(7,)])
        self.assertEqual(differences((3, 5)), [(5, 3), (2,)])
        self.assertEqual(differences((4, 4)), [(4, 4), (0,)])
        self.assertEqual(differences((4, 4, 4)), [(4, 4, 4), (4, 0), (4,)])
        self.assertEqual(differences((4, 5, 6, 7, 8)), [(8, 7, 6, 5, 4), (6, 5, 4, 1), (4, 1, 1), (3, 1), (2,)])

    def test_each_follows_from_the_one_ahead(self):
        for row in ROWS:
            told = differences(row)
            self.assertEqual(len(told), max(1, len(row)), row)
            self.assertEqual(told[0], tuple(sorted(row, reverse=True)))
            for ahead, behind in zip(told, told[1:]):
                left = list(ahead)
                greatest = max(left)
                left.remove(greatest)
                second = max(left)
                left.remove(second)
                self.assertEqual(behind, tuple(sorted(left + [greatest - second], reverse=True)), row)

    def test_signs_whose_worth_is_the_last_number(self):
        self.assertEqual(difference_signs(()), ())
        self.assertEqual(difference_signs((7,)), (1,))
        self.assertEqual(difference_signs((3, 5)), (-1, 1))
        self.assertEqual(difference_signs((5, 3)), (1, -1))
        for row in ROWS:
            signs = difference_signs(row)
            self.assertIs(type(signs), tuple)
            self.assertEqual(len(signs), len(row))
            self.assertLessEqual({(type(sign), sign) for sign in signs}, {(int, 1), (int, -1)}, row)
            last = differences(row)[-1][0] if row else 0
            self.assertEqual(plain_worth(row, signs), last, row)
            self.assertLessEqual(unevenness(row), last)

    def test_not_always_the_least(self):
        self.assertEqual(differences((4, 5, 6, 7, 8))[-1], (2,))
        self.assertEqual(unevenness((4, 5, 6, 7, 8)), 0)


class Papers(unittest.TestCase):
    def test_told_ones(self):
        self.assertEqual(uneven_paper(()), [(0,)])
        self.assertEqual(uneven_paper((3, 5)), [(0,), (-3, 3), (-8, -2, 2, 8)])
        self.assertEqual(uneven_bound([(0,)], ()), 0)
        self.assertEqual(uneven_bound([(0,), (-3, 3), (-8, -2, 2, 8)], (3, 5)), 2)
        self.assertEqual(uneven_bound([(0,), (-3, 3), (-8, -2, 1, 2, 8)], (3, 5)), 1)
        self.assertEqual(uneven_bound([(0,), (-3, 3), (-8, -2, -1, 2, 8)], (3, 5)), 1)
        self.assertEqual(uneven_bound([(0, 9), (-3, 3, 6, 12), (-8, -2, 1, 2, 7, 8, 11, 17)], (3, 5)), 1)
        self.assertIsNone(uneven_bound([(0, 9), (-3, 3), (-8, -2, 2, 8)], (3, 5)))

    def test_the_paper_has_what_is_reached_alone(self):
        for row in SHORT_ROWS:
            told = uneven_paper(row)
            expected = [tuple(sorted(signs_by_worth(row[:many]))) for many in range(len(row) + 1)]
            self.assertEqual(told, expected, row)
            self.assertEqual(uneven_bound(told, row), unevenness(row), row)
            self.assertEqual(unevenness(row), least_by_all(row), row)

    def test_layers_that_bar_a_number_are_papers(self):
        for row in SHORT_ROWS:
            layers = layers_for(row, sum(row) + 1)
            self.assertEqual(uneven_bound(layers, row), unevenness(row))
            wider = layers[:-1] + [tuple(sorted(layers[-1] + (sum(row) + 1,)))]
            self.assertIs(is_barred(wider, row, sum(row) + 1), False)
            self.assertEqual(uneven_bound(wider, row), unevenness(row))

    def test_a_bound_is_never_too_great(self):
        for row in [(), (1,), (3, 5), (2, 4, 6), (5, 1, 8, 2)]:
            told = uneven_paper(row)
            for new in range(-20, 21):
                if new not in told[-1]:
                    wider = told[:-1] + [tuple(sorted(told[-1] + (new,)))]
                    self.assertEqual(uneven_bound(wider, row), min(abs(new), unevenness(row)))

    def test_what_is_none(self):
        for row in [(), (1,), (3, 5), (2, 4, 6), (5, 1, 8, 2), (LARGE, 1, LARGE)]:
            told = uneven_paper(row)
            things = NO_NUMBERS + NO_ROWS + [0, (), (0,), [()], [None], tuple(told), told[::-1] + [()], told[:-1]]
            things += [told + [told[-1]], [()] * (len(row) + 1), dict(enumerate(told)), [list(layer) for layer in told]]
            for place, layer in enumerate(told):
                for at in range(len(layer)):
                    for changed in (layer[:at] + layer[at + 1:], layer[:at] + (None,) + layer[at + 1:], layer[::-1] + (at,)):
                        things.append(told[:place] + [changed] + told[place + 1:])
                    if layer[at] in (0, 1):
                        changed = layer[:at] + (bool(layer[at]),) + layer[at + 1:]
                        things.append(told[:place] + [changed] + told[place + 1:])
            for thing in things:
                self.assertIsNone(uneven_bound(thing, row), (thing, row))

    def test_ten_numbers_are_not_too_many(self):
        self.assertEqual(uneven_bound(uneven_paper(TEN), TEN), unevenness(TEN))
        self.assertEqual(len(uneven_paper((1,) * 10)), 11)


if __name__ == "__main__":
    unittest.main()
