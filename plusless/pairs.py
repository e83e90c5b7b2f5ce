"""Rows of pairs: two worths at once, and papers that show a goal is none."""

from plusless.errors import NoNumber, NoRow
from plusless.rows import are_whole, need_so_many_signs
from plusless.tables import SIGNS

MOST_PAIRS = 12


def are_pairs(thing):
    if not isinstance(thing, tuple) or len(thing) > MOST_PAIRS:
        return False
    return all([are_whole(pair, 2) for pair in thing])


def need_pairs(thing):
    if not are_pairs(thing):
        raise NoRow("a row of pairs is a tuple of 0 to 12 tuples of two whole numbers")


def need_pairs_and_goal(pairs, goal):
    need_pairs(pairs)
    if not are_whole(goal, 2):
        raise NoNumber("a goal is a tuple of two whole numbers")


def pair_worth(pairs, signs):
    need_pairs(pairs)
    need_so_many_signs(signs, len(pairs))
    first = sum([sign * pair[0] for pair, sign in zip(pairs, signs)])
    second = sum([sign * pair[1] for pair, sign in zip(pairs, signs)])
    return (first, second)


def pairs_stepped(table, pair):
    longer = {}
    for reached, held in table.items():
        for sign in SIGNS:
            there = (reached[0] + sign * pair[0], reached[1] + sign * pair[1])
            signs = held[0] + (sign,)
            known = longer.get(there, (signs, 0))
            longer[there] = (min(signs, known[0]), known[1] + held[1])
    return longer


def firsts_and_ways(pairs):
    # Beside each worth stand the first signs that have it, and how many have it.
    table = {(0, 0): ((), 1)}
    for pair in pairs:
        table = pairs_stepped(table, pair)
    return table


def pair_ways(pairs, goal):
    need_pairs_and_goal(pairs, goal)
    return firsts_and_ways(pairs).get(goal, (None, 0))[1]


def pair_signs(pairs, goal):
    need_pairs_and_goal(pairs, goal)
    return firsts_and_ways(pairs).get(goal, (None, 0))[0]


def size(pair):
    return max(abs(pair[0]), abs(pair[1]))


def least_size(pairs):
    need_pairs(pairs)
    return min([size(reached) for reached in firsts_and_ways(pairs)])


def least_signs(pairs):
    least = least_size(pairs)
    return min([held[0] for reached, held in firsts_and_ways(pairs).items() if size(reached) == least])


def along(u, v, pair):
    return u * pair[0] + v * pair[1]


def is_wall(u, v, pairs, goal):
    return abs(along(u, v, goal)) > sum([abs(along(u, v, pair)) for pair in pairs])


def walls(thing, pairs, goal):
    need_pairs_and_goal(pairs, goal)
    return are_whole(thing, 2) and is_wall(thing[0], thing[1], pairs, goal)


def is_pair_rest(thing, pairs, goal):
    need_pairs_and_goal(pairs, goal)
    if not are_whole(thing, 3) or thing[2] < 2:
        return False
    steps = [along(thing[0], thing[1], pair) for pair in pairs]
    divides_all = all([2 * step % thing[2] == 0 for step in steps])
    return divides_all and (sum(steps) - along(thing[0], thing[1], goal)) % thing[2] != 0


def wall_for(pairs, goal):
    need_pairs_and_goal(pairs, goal)
    # What the pairs, each times something from -1 to 1, come to fills a shape whose sides run along the pairs. Where a
    # goal lies outside it, it does so across some side; or, where the shape is but a line, along it; or, where it is
    # but a point, towards the goal.
    across = [(-pair[1], pair[0]) for pair in pairs]
    for tried in across + list(pairs) + [goal]:
        if is_wall(tried[0], tried[1], pairs, goal):
            return tried
    return None
