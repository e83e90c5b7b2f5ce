import unittest

from plusless.tables import is_barred, is_wide_barred, layers_for, wide_layers_for
from plusless.tables import part_ways, sign_ways
from samples import LARGE, MORE_ROWS, NO_NUMBERS, NO_ROWS, SMALL_ROWS, TEN, all_parts, all_signs, numbers_about, plain_worth

ROWS = SMALL_ROWS + MORE_ROWS

SIGNS = (is_barred, layers_for, sign_ways, all_signs, (-1, 1))
WIDE = (is_wide_barred, wide_layers_for, part_ways, all_parts, (-1, 0, 1))


def least_by_all(row, choices_of):
    """Layer k has the worths of the first k numbers."""
    layers = []
    for many in range(len(row) + 1):
        ahead = row[:many]
        layers.append(tuple(sorted({plain_worth(ahead, chosen) for chosen in choices_of(ahead)})))
    return layers


def follows(layers, row, parts):
    """Whether rising layers hold 0 and, number for number, all that comes of it."""
    asked = [{0}] + [
        {s + part * row[place] for s in layers[place] for part in parts} for place in range(len(row))
    ]
    return all(wanted <= set(layer) for wanted, layer in zip(asked, layers, strict=True))


def with_layer(layers, place, layer):
    return layers[:place] + [layer] + layers[place + 1:]


class Told(unittest.TestCase):
    def test_told_ones(self):
        self.assertEqual(layers_for((), 1), [(0,)])
        self.assertEqual(wide_layers_for((), -1), [(0,)])
        self.assertIsNone(layers_for((), 0))
        self.assertIsNone(wide_layers_for((), 0))
        self.assertEqual(layers_for((1, 2), 0), [(0,), (-1, 1), (-3, -1, 1, 3)])
        self.assertIsNone(wide_layers_for((1, 2), 0))
        self.assertEqual(wide_layers_for((2, 2), 1), [(0,), (-2, 0, 2), (-4, -2, 0, 2, 4)])

    def test_the_least_ones_against_going_through_all(self):
        for barred, layers, ways, choices_of, parts in (SIGNS, WIDE):
            for row in ROWS:
                least = least_by_all(row, choices_of)
                for number in numbers_about(row):
                    told = layers(row, number)
                    if number in least[-1]:
                        self.assertIsNone(told, (row, number))
                        self.assertNotEqual(ways(row, number), 0)
                        self.assertIs(barred(least, row, number), False)
                    else:
                        self.assertEqual(told, least, (row, number))
                        self.assertEqual(ways(row, number), 0)
                        self.assertIs(barred(told, row, number), True)

    def test_ten_numbers(self):
        for barred, layers, ways, choices_of, parts in (SIGNS, WIDE):
            told = layers(TEN, LARGE)
            self.assertEqual(told, least_by_all(TEN, choices_of))
            self.assertIs(barred(told, TEN, LARGE), True)
            self.assertIs(barred(told, TEN, 71), False)
            self.assertIsNone(layers(TEN, 71))


class Changed(unittest.TestCase):
    rows = [(), (1,), (2, 1), (3, 5), (1, 1, 2), (2, 4, 6), (5, 1, 8, 2), (LARGE, 1, LARGE)]

    def each_told(self):
        for barred, layers, ways, choices_of, parts in (SIGNS, WIDE):
            for row in self.rows:
                for number in (sum(row) + 1, -sum(row) - 3, sum(row) + LARGE):
                    yield barred, layers(row, number), row, number, parts

    def assert_not(self, barred, thing, row, number):
        self.assertIs(barred(thing, row, number), False, (thing, row, number))

    def test_a_number_left_out(self):
        for barred, told, row, number, parts in self.each_told():
            for place, layer in enumerate(told):
                for at in range(len(layer)):
                    self.assert_not(barred, with_layer(told, place, layer[:at] + layer[at + 1:]), row, number)

    def test_a_number_put_in(self):
        seen = set()
        for barred, told, row, number, parts in self.each_told():
            for place, layer in enumerate(told):
                near = {s + more for s in layer for more in (-2, -1, 1, 2)} | {number, -number, LARGE * 100}
                for new in sorted(near - set(layer)):
                    wider = with_layer(told, place, tuple(sorted(layer + (new,))))
                    expected = follows(wider, row, parts) and number not in wider[-1]
                    self.assertIs(barred(wider, row, number), expected, (wider, row, number))
                    seen.add(expected)
        self.assertEqual(seen, {True, False})

    def test_a_number_twice(self):
        for barred, told, row, number, parts in self.each_told():
            for place, layer in enumerate(told):
                for s in layer:
                    self.assert_not(barred, with_layer(told, place, tuple(sorted(layer + (s,)))), row, number)

    def test_a_truth_or_another_thing(self):
        for barred, told, row, number, parts in self.each_told():
            for place, layer in enumerate(told):
                for at, s in enumerate(layer):
                    things = [None, str(s), [s], (s,), {s: s}]
                    if s in (0, 1):
                        things.append(bool(s))
                    for thing in things:
                        changed = with_layer(told, place, layer[:at] + (thing,) + layer[at + 1:])
                        self.assert_not(barred, changed, row, number)
                if layer[-1] < 1:
                    self.assert_not(barred, with_layer(told, place, layer + (True,)), row, number)

    def test_from_behind(self):
        for barred, told, row, number, parts in self.each_told():
            for place, layer in enumerate(told):
                if len(layer) > 1:
                    self.assert_not(barred, with_layer(told, place, layer[::-1]), row, number)
                    self.assert_not(barred, with_layer(told, place, layer[1:] + layer[:1]), row, number)
            if len(told) > 1:
                self.assert_not(barred, told[::-1], row, number)

    def test_lists_and_tuples_exchanged(self):
        for barred, told, row, number, parts in self.each_told():
            self.assert_not(barred, tuple(told), row, number)
            self.assert_not(barred, dict(enumerate(told)), row, number)
            for place, layer in enumerate(told):
                for thing in (list(layer), dict.fromkeys(layer), str(layer), None, True, 0, (layer,)):
                    self.assert_not(barred, with_layer(told, place, thing), row, number)

    def test_a_layer_left_out_or_put_in(self):
        for barred, told, row, number, parts in self.each_told():
            for place in range(len(told)):
                self.assert_not(barred, told[:place] + told[place + 1:], row, number)
                self.assert_not(barred, told[:place] + [told[place]] + told[place:], row, number)
            for layer in ((), (0,)):
                for place in range(len(told) + 1):
                    self.assert_not(barred, told[:place] + [layer] + told[place:], row, number)

    def test_things_of_other_kinds(self):
        for barred in (is_barred, is_wide_barred):
            for row in self.rows:
                for thing in NO_NUMBERS + NO_ROWS + [0, (), (0,), [()], [None], [(0,)] * 9, [()] * (len(row) + 1)]:
                    self.assert_not(barred, thing, row, sum(row) + 1)


class MoreThanTheLeast(unittest.TestCase):
    def test_every_number_of_a_span(self):
        for barred in (is_barred, is_wide_barred):
            layers = [tuple(range(-n, n + 1)) for n in (0, 2, 5, 9)]
            self.assertIs(barred(layers, (2, 3, 4), 10), True)
            self.assertIs(barred(layers, (2, 3, 4), -10), True)
            self.assertIs(barred(layers, (2, 3, 4), 8), False)
            self.assertIs(barred(layers, (2, 3, 5), 10), False)

    def test_the_first_layer_may_have_more(self):
        self.assertIs(is_barred([(0, 5)], (), 3), True)
        self.assertIs(is_barred([(-5, 0, 5)], (), 5), False)
        self.assertIs(is_barred([(5,)], (), 3), False)
        self.assertIs(is_barred([(0, 10), (-1, 1, 9, 11)], (1,), 0), True)
        self.assertIs(is_wide_barred([(0, 10), (-1, 0, 1, 9, 10, 11)], (1,), 2), True)
        self.assertIs(is_wide_barred([(0, 10), (-1, 0, 1, 9, 11)], (1,), 2), False)

    def test_wide_ones_are_layers_and_not_the_other_way(self):
        for row in [row for row in ROWS if row]:
            number = sum(row) + 1
            self.assertIs(is_barred(wide_layers_for(row, number), row, number), True)
            self.assertIs(is_wide_barred(layers_for(row, number), row, number), False)


if __name__ == "__main__":
    unittest.main()
