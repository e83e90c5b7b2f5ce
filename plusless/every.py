"""Rows that come to every worth, by parts and by signs."""

from plusless.errors import Lacking, NoNumber
from plusless.rows import need_number_from, need_row, need_row_and_number

# A number may be so many times what those ahead of it come to, and 1.
TIMES_BY_PARTS = 2
TIMES_BY_SIGNS = 1


def ahead_of_too_great(row, times):
    ahead = 0
    for number in sorted(row):
        if number > times * ahead + 1:
            return ahead
        ahead = ahead + number
    return None


def every_by_parts(row):
    need_row(row)
    return ahead_of_too_great(row, TIMES_BY_PARTS) is None


def every_by_signs(row):
    need_row(row)
    return ahead_of_too_great(row, TIMES_BY_SIGNS) is None


def missed_by_parts(row):
    need_row(row)
    ahead = ahead_of_too_great(row, TIMES_BY_PARTS)
    return None if ahead is None else sum(row) - 2 * ahead - 1


def missed_by_signs(row):
    need_row(row)
    ahead = ahead_of_too_great(row, TIMES_BY_SIGNS)
    return None if ahead is None else sum(row) - 2 * ahead - 2


def shortest_row(t, times):
    # The last number is as great as it may be, which leaves the least to those ahead of it.
    numbers = []
    rest = t
    while rest > 0:
        ahead = (rest - 1 + times) // (times + 1)
        numbers.append(rest - ahead)
        rest = ahead
    return tuple(reversed(numbers))


def row_by_parts(t):
    need_number_from(0, t)
    return shortest_row(t, TIMES_BY_PARTS)


def row_by_signs(t):
    need_number_from(0, t)
    return shortest_row(t, TIMES_BY_SIGNS)


def fewest_by_parts(t):
    return len(row_by_parts(t))


def fewest_by_signs(t):
    return len(row_by_signs(t))


def part_towards(rest, ahead):
    if rest > ahead:
        return 1
    if rest < -ahead:
        return -1
    return 0


def weighed(row, number):
    need_row_and_number(row, number)
    if abs(number) > sum(row):
        raise NoNumber("this number is greater than the total")
    if not every_by_parts(row):
        raise Lacking("this row does not come to every worth by parts")
    parts = [0] * len(row)
    ahead = sum(row)
    rest = number
    # From the greatest number on: what is left to weigh is never more than those ahead come to.
    for place in sorted(range(len(row)), key=lambda at: row[at], reverse=True):
        ahead = ahead - row[place]
        parts[place] = part_towards(rest, ahead)
        rest = rest - parts[place] * row[place]
    return tuple(parts)
