import unittest

from plusless.errors import NoSigns
from plusless.rows import are_parts, are_signs, is_row, kept, lots, total, turned, worth
from samples import ALL_ROWS, LARGE, NEVER_PARTS, NO_ROWS, plain_worth, some_parts

# None of these may stand in parts, though some are equal to what may.
WRONG_PARTS = (2, -2, LARGE, True, False, "1", "", "+", None, [1], [], (1,), (), {}, {1: 1})


def spoilt(right):
    """What comes of right parts by one left out, one more, or one exchanged."""
    wrong = [right + (part,) for part in (-1, 0, 1)] + [list(right), str(right), {0: right}, (right,)]
    for place in range(len(right)):
        wrong.append(right[:place] + right[place + 1:])
        wrong.extend([right[:place] + (part,) + right[place + 1:] for part in WRONG_PARTS])
    return wrong


class Rows(unittest.TestCase):
    def test_rows(self):
        for row in ALL_ROWS + [(LARGE,) * many for many in range(17)] + [(1,) * many for many in range(17)]:
            self.assertIs(is_row(row), True, row)

    def test_what_is_no_row(self):
        for thing in NO_ROWS:
            self.assertIs(is_row(thing), False, thing)

    def test_a_wrong_thing_at_each_place(self):
        for place in range(16):
            for wrong in (0, -1, -LARGE, True, False, None, "1", [1], (1,), {1: 1}):
                row = (1,) * place + (wrong,) + (1,) * (15 - place)
                self.assertIs(is_row(row), False, row)


class Parts(unittest.TestCase):
    def test_parts_and_signs(self):
        for row in ALL_ROWS:
            for parts in some_parts(row):
                self.assertIs(are_parts(parts, row), True, (parts, row))
                self.assertIs(are_signs(parts, row), parts.count(0) == 0, (parts, row))

    def test_what_are_no_parts(self):
        for row in [(1,), (3, 5), (3, 5, 7), (LARGE,) * 5, (1,) * 16]:
            for parts in some_parts(row)[:20]:
                for thing in spoilt(parts):
                    self.assertIs(are_parts(thing, row), False, (thing, row))
                    self.assertIs(are_signs(thing, row), False, (thing, row))
                    for function in (worth, turned, lots, kept):
                        self.assertRaises(NoSigns, function, row, thing)
            for thing in NEVER_PARTS:
                self.assertIs(are_parts(thing, row), False, (thing, row))
                self.assertIs(are_signs(thing, row), False, (thing, row))

    def test_the_row_without_numbers(self):
        self.assertIs(are_parts((), ()), True)
        self.assertIs(are_signs((), ()), True)
        for thing in NEVER_PARTS:
            if thing != ():
                self.assertIs(are_parts(thing, ()), False, thing)
                self.assertIs(are_signs(thing, ()), False, thing)
                for function in (worth, turned, lots, kept):
                    self.assertRaises(NoSigns, function, (), thing)


class Worths(unittest.TestCase):
    def test_told_ones(self):
        self.assertEqual(total(()), 0)
        self.assertEqual(total((3, 5, 7)), 15)
        self.assertEqual(total((LARGE,) * 16), 16 * LARGE)
        self.assertEqual(worth((), ()), 0)
        self.assertEqual(worth((3, 5, 7), (1, -1, 0)), -2)
        self.assertEqual(worth((3, 5, 7), (0, 0, 0)), 0)
        self.assertEqual(worth((LARGE,) * 16, (-1,) * 16), -16 * LARGE)

    def test_many(self):
        for row in ALL_ROWS:
            self.assertEqual(total(row), plain_worth(row, (1,) * len(row)))
            for parts in some_parts(row):
                self.assertEqual(worth(row, parts), plain_worth(row, parts), (row, parts))


class Sides(unittest.TestCase):
    def test_turned(self):
        self.assertEqual(turned((), ()), ())
        self.assertEqual(turned((3, 5, 7), (1, -1, 0)), (-1, 1, 0))
        self.assertEqual(turned((3, 5), (0, 0)), (0, 0))

    def test_lots(self):
        self.assertEqual(lots((), ()), ((), ()))
        self.assertEqual(lots((3, 5, 7, 1, 1), (1, -1, 0, -1, 1)), ((0, 4), (1, 3)))
        self.assertEqual(lots((3, 5), (0, 0)), ((), ()))
        self.assertEqual(lots((3, 5), (-1, -1)), ((), (0, 1)))
        self.assertEqual(lots((1,) * 16, (1,) * 16), (tuple(range(16)), ()))

    def test_kept(self):
        self.assertEqual(kept((), ()), ((), ()))
        self.assertEqual(kept((3, 5, 7, 2), (1, 0, -1, 0)), ((3, 7), (1, -1)))
        self.assertEqual(kept((3, 5), (0, 0)), ((), ()))
        self.assertEqual(kept((7, 5, 7), (-1, 1, 1)), ((7, 5, 7), (-1, 1, 1)))

    def test_many(self):
        for row in ALL_ROWS:
            for parts in some_parts(row):
                opposite = turned(row, parts)
                self.assertEqual([part + other for part, other in zip(parts, opposite, strict=True)], [0] * len(row))
                plus, less = lots(row, parts)
                self.assertEqual(list(plus), [place for place in range(len(row)) if parts[place] == 1])
                self.assertEqual(list(less), [place for place in range(len(row)) if parts[place] == -1])
                numbers, signs = kept(row, parts)
                there = sorted(plus + less)
                self.assertEqual(numbers, tuple(row[place] for place in there))
                self.assertEqual(signs, tuple(parts[place] for place in there))


class WhatFollows(unittest.TestCase):
    def test_worths_of_what_is_turned_and_kept(self):
        for row in ALL_ROWS:
            for parts in some_parts(row):
                told = worth(row, parts)
                self.assertEqual(worth(row, turned(row, parts)), -told)
                self.assertEqual(turned(row, turned(row, parts)), parts)
                numbers, signs = kept(row, parts)
                self.assertIs(are_signs(signs, numbers), True)
                self.assertEqual(worth(numbers, signs), told)

    def test_worth_by_what_is_left_out_and_less(self):
        for row in ALL_ROWS:
            for parts in some_parts(row):
                plus, less = lots(row, parts)
                left_out = [row[place] for place in range(len(row)) if place not in plus + less]
                taken = [row[place] for place in less]
                self.assertEqual(worth(row, parts), total(row) - sum(left_out) - 2 * sum(taken))


if __name__ == "__main__":
    unittest.main()
