"""How even the signs of a row can be, and papers that show they are no more even."""

from plusless.halves import above, first_met, many_met
from plusless.rows import need_row
from plusless.tables import SIGNS, are_layers, least_layers, need_few


def unevenness(row):
    # Signs turned about have the opposite worth, so the worths below 0 have no other sizes.
    return above(row, 0)


def evenest(row):
    least = unevenness(row)
    return min(first_met(row, least), first_met(row, -least))


def evenest_many(row):
    least = unevenness(row)
    met = many_met(row, least)
    return met if least == 0 else met + many_met(row, -least)


def parts_of_one(place, row):
    return tuple([1 if other == place else 0 for other in range(len(row))])


def difference(greater, lesser):
    parts = [ahead - behind for ahead, behind in zip(greater[1], lesser[1])]
    return (greater[0] - lesser[0], tuple(parts))


def difference_steps(row):
    # Beside each number stand the parts whose worth it is: so those of the last one are its signs.
    held = sorted([(number, parts_of_one(place, row)) for place, number in enumerate(row)], reverse=True)
    steps = [held]
    while len(held) > 1:
        held = sorted(held[2:] + [difference(held[0], held[1])], reverse=True)
        steps.append(held)
    return steps


def differences(row):
    need_row(row)
    return [tuple([number for number, parts in held]) for held in difference_steps(row)]


def difference_signs(row):
    need_row(row)
    if row == ():
        return ()
    last = difference_steps(row)[-1][0]
    return last[1]


def uneven_bound(thing, row):
    need_few(row)
    if not are_layers(thing, row, SIGNS):
        return None
    return min([abs(reached) for reached in thing[-1]])


def uneven_paper(row):
    need_few(row)
    return least_layers(row, SIGNS)
