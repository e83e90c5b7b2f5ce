"""The worths of rows of up to sixteen numbers, met from the worths of both halves."""

from plusless.rows import are_whole, need_row, need_row_and_number
from plusless.tables import SIGNS, table_of


def halves_of(row):
    middle = len(row) // 2
    return (row[:middle], row[middle:])


def half_worths(row):
    need_row(row)
    return tuple([tuple(sorted(table_of(half, SIGNS))) for half in halves_of(row)])


def many_met(row, number):
    need_row_and_number(row, number)
    counts = [table_of(half, SIGNS) for half in halves_of(row)]
    return sum([ways * counts[1].get(number - reached, 0) for reached, ways in counts[0].items()])


def firsts_stepped(firsts, step):
    # Whatever signs come behind, they go on alike from the same worth: so only the first ones to it are kept.
    longer = {}
    for reached, signs in firsts.items():
        for sign in SIGNS:
            there = reached + sign * step
            chosen = signs + (sign,)
            longer[there] = min(chosen, longer.get(there, chosen))
    return longer


def firsts_of(row):
    firsts = {0: ()}
    for step in row:
        firsts = firsts_stepped(firsts, step)
    return firsts


def first_met(row, number):
    need_row_and_number(row, number)
    firsts = [firsts_of(half) for half in halves_of(row)]
    met = [signs + firsts[1][number - reached] for reached, signs in firsts[0].items() if number - reached in firsts[1]]
    return min(met, default=None)


def walk(row, number):
    # A half worth is passed over where all that is left of the other half would lie further off on the same side:
    # so the number, or else the nearest worths on both sides of it, are among those walked over.
    worths = half_worths(row)
    walked = []
    i = 0
    j = len(worths[1]) - 1
    while i < len(worths[0]) and j >= 0:
        both = worths[0][i] + worths[1][j]
        walked.append((i, j, both))
        if both < number:
            i = i + 1
        else:
            j = j - 1
    return walked


def stair_for(row, number):
    need_row_and_number(row, number)
    walked = walk(row, number)
    if any([both == number for i, j, both in walked]):
        return None
    return tuple([(i, j) for i, j, both in walked])


def is_stair(thing, row, number):
    need_row_and_number(row, number)
    # In Python True equals 1, so it is not enough that the thing equals the stair.
    if not isinstance(thing, tuple) or not all([are_whole(place, 2) for place in thing]):
        return False
    return thing == stair_for(row, number)


def below(row, number):
    need_row_and_number(row, number)
    return max([both for i, j, both in walk(row, number) if both <= number], default=None)


def above(row, number):
    need_row_and_number(row, number)
    return min([both for i, j, both in walk(row, number) if both >= number], default=None)
