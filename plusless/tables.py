"""The worths of short rows by tables, and papers that show a number is none."""

from plusless.errors import TooMany
from plusless.rows import is_whole, need_row, need_row_and_number

LONGEST_TABLED = 10
SIGNS = (-1, 1)
PARTS = (-1, 0, 1)


def need_few(row):
    need_row(row)
    if len(row) > LONGEST_TABLED:
        raise TooMany("here rows have at most ten numbers")


def need_few_and_number(row, number):
    need_row_and_number(row, number)
    need_few(row)


def stepped(table, step, choices):
    wider = {}
    for reached, ways in table.items():
        for choice in choices:
            there = reached + choice * step
            wider[there] = wider.get(there, 0) + ways
    return wider


def table_of(row, choices):
    table = {0: 1}
    for step in row:
        table = stepped(table, step, choices)
    return table


def sign_table(row):
    need_few(row)
    return table_of(row, SIGNS)


def part_table(row):
    need_few(row)
    return table_of(row, PARTS)


def tables_from_behind(row, choices):
    tables = [{0: 1}]
    for step in reversed(row):
        tables.append(stepped(tables[-1], step, choices))
    return tables


def first_to(row, number, choices):
    tables = tables_from_behind(row, choices)
    if number not in tables[-1]:
        return None
    chosen = []
    rest = number
    for place, step in enumerate(row):
        behind = tables[len(row) - place - 1]
        first = min([choice for choice in choices if rest - choice * step in behind])
        chosen.append(first)
        rest = rest - first * step
    return tuple(chosen)


def signs_to(row, number):
    need_few_and_number(row, number)
    return first_to(row, number, SIGNS)


def parts_to(row, number):
    need_few_and_number(row, number)
    return first_to(row, number, PARTS)


def sign_ways(row, number):
    need_few_and_number(row, number)
    return table_of(row, SIGNS).get(number, 0)


def part_ways(row, number):
    need_few_and_number(row, number)
    return table_of(row, PARTS).get(number, 0)


def is_rising(thing):
    if not isinstance(thing, tuple) or not all([is_whole(number) for number in thing]):
        return False
    return all([thing[place - 1] < thing[place] for place in range(1, len(thing))])


def leads_on(layer, following, step, choices):
    # A look into a dict stays quick where a layer has many thousand numbers.
    present = dict([(reached, True) for reached in following])
    for reached in layer:
        for choice in choices:
            if reached + choice * step not in present:
                return False
    return True


def are_layers(thing, row, choices):
    if not isinstance(thing, list) or len(thing) != len(row) + 1:
        return False
    if not all([is_rising(layer) for layer in thing]) or 0 not in thing[0]:
        return False
    return all([leads_on(thing[place], thing[place + 1], step, choices) for place, step in enumerate(row)])


def is_barred(thing, row, number):
    need_few_and_number(row, number)
    return are_layers(thing, row, SIGNS) and number not in thing[-1]


def is_wide_barred(thing, row, number):
    need_few_and_number(row, number)
    return are_layers(thing, row, PARTS) and number not in thing[-1]


def least_layers(row, choices):
    # What is reached has to be there, and nothing else has to: so these are the fewest numbers.
    table = {0: 1}
    layers = [(0,)]
    for step in row:
        table = stepped(table, step, choices)
        layers.append(tuple(sorted(table)))
    return layers


def least_without(number, row, choices):
    layers = least_layers(row, choices)
    return None if number in layers[-1] else layers


def layers_for(row, number):
    need_few_and_number(row, number)
    return least_without(number, row, SIGNS)


def wide_layers_for(row, number):
    need_few_and_number(row, number)
    return least_without(number, row, PARTS)


def is_rest(thing, row, number):
    need_few_and_number(row, number)
    if not is_whole(thing) or thing < 2:
        return False
    divides_all = all([2 * step % thing == 0 for step in row])
    return divides_all and (sum(row) - number) % thing != 0


def common_divisor(row):
    divisor = 0
    for number in row:
        other = number
        while other != 0:
            left = divisor % other
            divisor = other
            other = left
    return divisor


def rest_for(row, number):
    need_few_and_number(row, number)
    if row == ():
        return None
    # Every rest divides this one; so where it is none, no other number is.
    greatest = 2 * common_divisor(row)
    return greatest if (sum(row) - number) % greatest != 0 else None
