"""Signs put in turn: how far the worth swings on the way, and papers that show it swings further."""

from plusless.halves import firsts_stepped
from plusless.rows import need_row, need_row_and_number, need_so_many_signs
from plusless.tables import SIGNS, is_rising, need_few_and_number, stepped


def swing(row, signs):
    need_row(row)
    need_so_many_signs(signs, len(row))
    reached = 0
    greatest = 0
    for step, sign in zip(row, signs):
        reached = reached + sign * step
        greatest = max(greatest, abs(reached))
    return greatest


def swings_stepped(swings, step):
    longer = {}
    for reached, swung in swings.items():
        for sign in SIGNS:
            there = reached + sign * step
            further = max(swung, abs(there))
            longer[there] = min(further, longer.get(there, further))
    return longer


def least_swing(row):
    need_row(row)
    swings = {0: 0}
    for step in row:
        swings = swings_stepped(swings, step)
    return min(swings.values())


def kept_within(reached, bound):
    return dict([(number, held) for number, held in reached.items() if abs(number) <= bound])


def calm(row):
    bound = least_swing(row)
    firsts = {0: ()}
    for step in row:
        firsts = kept_within(firsts_stepped(firsts, step), bound)
    return min(firsts.values())


def tables_within(row, bound):
    # The worth of no numbers is 0, and already too great for a bound below it.
    table = kept_within({0: 1}, bound)
    tables = [table]
    for step in row:
        table = kept_within(stepped(table, step, SIGNS), bound)
        tables.append(table)
    return tables


def calm_many(row, number):
    need_row_and_number(row, number)
    last = tables_within(row, number)[-1]
    return sum(last.values())


def leaning(row):
    need_row(row)
    signs = []
    reached = 0
    for step in row:
        sign = -1 if reached > 0 else 1
        signs.append(sign)
        reached = reached + sign * step
    return tuple(signs)


def leads_on_within(layer, following, step, bound):
    present = dict([(reached, True) for reached in following])
    for reached in layer:
        for sign in SIGNS:
            there = reached + sign * step
            if abs(there) <= bound and there not in present:
                return False
    return True


def is_swing_paper(thing, row, number):
    need_few_and_number(row, number)
    if not isinstance(thing, list) or len(thing) != len(row) + 1:
        return False
    if not all([is_rising(layer) for layer in thing]) or thing[-1] != ():
        return False
    if number >= 0 and 0 not in thing[0]:
        return False
    return all([leads_on_within(thing[place], thing[place + 1], step, number) for place, step in enumerate(row)])


def swing_paper(row, number):
    need_few_and_number(row, number)
    tables = tables_within(row, number)
    return [tuple(sorted(table)) for table in tables] if tables[-1] == {} else None
