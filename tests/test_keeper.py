import unittest
from itertools import product

from plusless.errors import Bare, NoNumber, TooMany
from plusless.keeper import Keeper
from samples import (
    LARGE, LONG_ROWS, MORE_ROWS, NO_NUMBERS, NO_ROWS, SIXTEENS, SMALL_ROWS, TEN, numbers_about, refused, signs_by_worth,
)

ROWS = SMALL_ROWS + MORE_ROWS + [TEN, (5,) * 13, SIXTEENS[0], SIXTEENS[4]]
NEVER_PUT = NO_NUMBERS + [0, -1, -2, -LARGE] + [thing for thing in NO_ROWS if not type(thing) is int or thing < 1]


def keeper_of(row):
    keeper = Keeper()
    for number in row:
        keeper.put(number)
    return keeper


def row_of(standing):
    """The row that puts (numbers) and takes (None) lead to."""
    numbers = []
    for said in standing:
        if said is None:
            numbers.pop()
        else:
            numbers.append(said)
    return tuple(numbers)


def seen_of(keeper):
    row = keeper.row()
    return (
        row, keeper.worths_many(), [keeper.ways(number) for number in range(-5, 6)],
        [keeper.first(number) for number in range(-5, 6)], [keeper.times(number) for number in range(-5, 6)],
    )


class Changes(unittest.TestCase):
    def test_at_first(self):
        keeper = Keeper()
        self.assertEqual(keeper.row(), ())
        self.assertEqual(keeper.worths_many(), 1)
        self.assertEqual((keeper.ways(0), keeper.ways(1)), (1, 0))
        self.assertEqual((keeper.first(0), keeper.first(1)), ((), None))
        self.assertEqual((keeper.times(0), keeper.times(1)), ([0], []))

    def test_told_ones(self):
        keeper = Keeper()
        self.assertEqual([keeper.put(3), keeper.put(5), keeper.put(3)], [1, 2, 3])
        self.assertEqual(keeper.row(), (3, 5, 3))
        self.assertEqual(keeper.take(), 2)
        self.assertEqual(keeper.row(), (3, 5))
        self.assertEqual(keeper.back(), 3)
        self.assertEqual(keeper.row(), (3, 5, 3))
        self.assertEqual(keeper.back(), 2)
        self.assertEqual(keeper.put(LARGE), 3)
        self.assertEqual(keeper.row(), (3, 5, LARGE))
        self.assertEqual([keeper.back(), keeper.back(), keeper.back()], [2, 1, 0])
        self.assertIs(refused(keeper.back), Bare)

    def test_every_short_course(self):
        for course in product(("put 1", "put 2", "take", "back"), repeat=6):
            keeper = Keeper()
            standing = []
            for said in course:
                self.step(keeper, standing, said)
                self.assertEqual(keeper.row(), row_of(standing), course)

    def step(self, keeper, standing, said):
        if said == "back":
            if not standing:
                self.assertIs(refused(keeper.back), Bare)
                return
            standing.pop()
            answer = keeper.back()
        elif said == "take":
            if not row_of(standing):
                self.assertIs(refused(keeper.take), Bare)
                return
            standing.append(None)
            answer = keeper.take()
        else:
            standing.append(int(said[4:]))
            answer = keeper.put(int(said[4:]))
        self.assertEqual(answer, len(row_of(standing)))

    def test_back_through_a_long_course(self):
        keeper = Keeper()
        rows = []
        for turn in range(40):
            for number in (turn + 1, 7, turn + 2):
                rows.append(keeper.row())
                keeper.put(number)
            for many in range(3 if turn % 4 else 2):
                rows.append(keeper.row())
                keeper.take()
        for row in reversed(rows):
            self.assertEqual(keeper.back(), len(row))
            self.assertEqual(keeper.row(), row)
        self.assertIs(refused(keeper.back), Bare)

    def test_a_put_behind_a_back(self):
        keeper = keeper_of((1, 2, 3))
        keeper.take()
        keeper.back()
        keeper.back()
        keeper.put(9)
        self.assertEqual(keeper.row(), (1, 2, 9))
        self.assertEqual(keeper.back(), 2)
        self.assertEqual(keeper.row(), (1, 2))


class Refused(unittest.TestCase):
    def assert_unchanged(self, keeper, error, function, *handed):
        before = seen_of(keeper)
        self.assertIs(refused(function, *handed), error, handed)
        self.assertEqual(seen_of(keeper), before)

    def test_no_number_put(self):
        for row in ((), (3, 5), (1,) * 15):
            keeper = keeper_of(row)
            for thing in NEVER_PUT:
                self.assertIs(refused(keeper.put, thing), NoNumber, thing)
            self.assert_unchanged(keeper, NoNumber, keeper.put, 0)
            self.assertEqual(keeper.row(), row)

    def test_sixteen_and_one_more(self):
        keeper = keeper_of((1,) * 15)
        self.assertEqual(keeper.put(4), 16)
        self.assert_unchanged(keeper, TooMany, keeper.put, 4)
        for number in (1, LARGE):
            self.assertIs(refused(keeper.put, number), TooMany)
        for thing in NEVER_PUT:
            self.assertIs(refused(keeper.put, thing), NoNumber, thing)
        self.assertEqual(keeper.row(), (1,) * 15 + (4,))
        self.assertEqual(keeper.take(), 15)
        self.assertEqual(keeper.put(6), 16)
        self.assertEqual(keeper.row(), (1,) * 15 + (6,))

    def test_what_was_refused_does_not_stand(self):
        keeper = keeper_of((3, 5))
        for thing in (0, True, None, "3"):
            self.assertIs(refused(keeper.put, thing), NoNumber)
        self.assertEqual((keeper.back(), keeper.row()), (1, (3,)))
        keeper.take()
        self.assertIs(refused(keeper.take), Bare)
        self.assertEqual((keeper.back(), keeper.row()), (1, (3,)))
        full = keeper_of((2,) * 16)
        self.assertIs(refused(full.put, 1), TooMany)
        self.assertEqual((full.back(), full.row()), (15, (2,) * 15))

    def test_bare(self):
        keeper = Keeper()
        self.assert_unchanged(keeper, Bare, keeper.take)
        self.assert_unchanged(keeper, Bare, keeper.back)
        keeper.put(3)
        keeper.take()
        self.assertIs(refused(keeper.take), Bare)
        self.assertEqual(keeper.back(), 1)
        self.assertEqual(keeper.back(), 0)
        self.assert_unchanged(keeper, Bare, keeper.back)

    def test_no_number_asked(self):
        for row in ((), (3, 5), (1,) * 16):
            keeper = keeper_of(row)
            for thing in NO_NUMBERS:
                for function in (keeper.ways, keeper.first, keeper.times):
                    self.assertIs(refused(function, thing), NoNumber, thing)
            self.assertEqual(keeper.row(), row)


class Asked(unittest.TestCase):
    def test_told_ones(self):
        keeper = keeper_of((1, 2, 3))
        self.assertEqual(keeper.worths_many(), 7)
        self.assertEqual((keeper.ways(0), keeper.first(0)), (2, (-1, -1, 1)))
        self.assertEqual((keeper.ways(1), keeper.first(1)), (0, None))
        self.assertEqual(keeper.times(0), [0, 3])
        self.assertEqual(keeper.times(1), [1, 2])
        self.assertEqual(keeper.times(3), [2])
        self.assertEqual(keeper.times(7), [])

    def test_against_all_signs(self):
        for row in ROWS:
            keeper = keeper_of(row)
            found = signs_by_worth(row)
            self.assertEqual(keeper.row(), row)
            self.assertIs(type(keeper.row()), tuple)
            self.assertEqual(keeper.worths_many(), len(found), row)
            for number in numbers_about(row):
                self.assertEqual(keeper.ways(number), len(found.get(number, [])), (row, number))
                self.assertEqual(keeper.first(number), found.get(number, [None])[0], (row, number))

    def test_times_against_all_signs(self):
        for row in SMALL_ROWS + MORE_ROWS + [TEN, (1,) * 13, SIXTEENS[0]]:
            keeper = keeper_of(row)
            reached = [signs_by_worth(row[:many]) for many in range(len(row) + 1)]
            numbers = numbers_about(row)
            for number in numbers[::1 + len(numbers) // 40]:
                expected = [many for many in range(len(row) + 1) if number in reached[many]]
                self.assertEqual(keeper.times(number), expected, (row, number))

    def test_one_more_unlike_worths_at_least(self):
        for row in SMALL_ROWS + MORE_ROWS + LONG_ROWS:
            keeper = Keeper()
            for number in row:
                before = keeper.worths_many()
                keeper.put(number)
                self.assertGreater(keeper.worths_many(), before)
                self.assertLessEqual(keeper.worths_many(), 2 * before)

    def test_with_a_number_more_each_worth_leads_to_two(self):
        for row in SMALL_ROWS + MORE_ROWS[:12]:
            for number in (1, 2, 9, LARGE):
                keeper = keeper_of(row)
                before = {reached: keeper.ways(reached) for reached in signs_by_worth(row)}
                keeper.put(number)
                led = {reached + step for reached in before for step in (-number, number)}
                self.assertEqual(keeper.worths_many(), len(led))
                for reached in led:
                    expected = before.get(reached - number, 0) + before.get(reached + number, 0)
                    self.assertEqual(keeper.ways(reached), expected, (row, number, reached))

    def test_the_row_alone_counts(self):
        straight = keeper_of((3, 1, 4))
        around = keeper_of((9, 9))
        around.take()
        around.take()
        for number in (3, 1, 5):
            around.put(number)
        around.back()
        around.put(4)
        self.assertEqual(seen_of(around), seen_of(straight))

    def test_asking_changes_nothing(self):
        keeper = keeper_of((3, 1, 4))
        self.assertEqual(seen_of(keeper), seen_of(keeper))
        self.assertEqual([keeper.back(), keeper.back(), keeper.back()], [2, 1, 0])

    def test_what_is_told_is_the_asker_s_own(self):
        keeper = keeper_of((1, 2, 3))
        told = keeper.times(0)
        self.assertIs(type(told), list)
        self.assertIsNot(keeper.times(0), told)
        told.append(7)
        self.assertEqual(keeper.times(0), [0, 3])
        row = keeper.row()
        keeper.put(4)
        self.assertEqual(row, (1, 2, 3))


class Two(unittest.TestCase):
    def test_two_keepers_have_nothing_in_common(self):
        one = Keeper()
        other = Keeper()
        one.put(3)
        self.assertEqual(other.row(), ())
        self.assertIs(refused(other.back), Bare)
        self.assertIs(refused(other.take), Bare)
        other.put(5)
        other.put(7)
        self.assertEqual((one.row(), other.row()), ((3,), (5, 7)))
        one.take()
        self.assertEqual((one.row(), other.row()), ((), (5, 7)))
        other.back()
        self.assertEqual((one.row(), other.row()), ((), (5,)))
        self.assertEqual((one.back(), one.row(), other.row()), (1, (3,), (5,)))
        self.assertEqual((one.times(3), other.times(3), other.times(5)), ([1], [], [1]))
        self.assertEqual(Keeper().row(), ())


if __name__ == "__main__":
    unittest.main()
