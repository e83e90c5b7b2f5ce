"""Rows changed, and tables of worths changed alike."""

from plusless.errors import NoNumber, NoSigns, NoTable, TooMany
from plusless.rows import LONGEST_ROW, are_whole, is_whole, need_number, need_number_from, need_row


def joined(one, other):
    need_row(one)
    need_row(other)
    if len(one) + len(other) > LONGEST_ROW:
        raise TooMany("a row has at most sixteen numbers")
    return one + other


def grown(row, by):
    need_row(row)
    need_number_from(1, by)
    return tuple([number * by for number in row])


def is_order(thing, row):
    return are_whole(thing, len(row)) and sorted(thing) == list(range(len(row)))


def mixed(row, order):
    need_row(row)
    if not is_order(order, row):
        raise NoSigns("an order is a tuple of all places of the row, each once")
    return tuple([row[place] for place in order])


def without(row, place):
    need_row(row)
    need_number_from(0, place)
    if place >= len(row):
        raise NoNumber("the row has no such place")
    return row[:place] + row[place + 1:]


def is_table(thing):
    if not isinstance(thing, dict) or thing == {}:
        return False
    return all([is_whole(reached) and is_whole(ways) and ways >= 1 for reached, ways in thing.items()])


def need_table(thing):
    if not is_table(thing):
        raise NoTable("a table is a dict of whole numbers, one at least, each with a whole number from 1 on")


def multiplied(one, other):
    need_table(one)
    need_table(other)
    product = {}
    for reached, ways in one.items():
        for further, others in other.items():
            there = reached + further
            product[there] = product.get(there, 0) + ways * others
    return product


def shifted(table, by):
    need_table(table)
    need_number(by)
    return dict([(reached + by, ways) for reached, ways in table.items()])


def need_table_and_number(table, number):
    need_table(table)
    need_number_from(1, number)


def divided(table, number, further):
    # The least worth left can only come of the least one of the divisor, so it tells a worth of the other table; what
    # that one brings at the further worths of the divisor must be there.
    left = dict(table)
    other = {}
    for reached in sorted(table):
        ways = left[reached]
        if ways > 0:
            other[reached + number] = ways
            for more in further:
                if left.get(reached + more, 0) < ways:
                    return None
                left[reached + more] = left[reached + more] - ways
    return other


def taken_out(table, number):
    need_table_and_number(table, number)
    return divided(table, number, (2 * number,))


def part_taken_out(table, number):
    need_table_and_number(table, number)
    return divided(table, number, (number, 2 * number))
