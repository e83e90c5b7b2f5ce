"""Things that several tests hand in, and answers found by going through everything."""

from functools import lru_cache
from itertools import product

from plusless.errors import PlusError

LARGE = 10 ** 30 - 1


def nested(depth, inner):
    thing = inner
    for level in range(depth):
        thing = ([thing], (thing,), {"a": thing})[level % 3]
    return thing


NO_ROWS = [
    True, False, None, 0, 1, -1, 7, LARGE, -LARGE, "", "1", "+3 -5", "(1, 2)",
    [], [1], [1, 2, 3], {}, {1: 1}, {0: 3}, [[1]], [(1,)],
    (True,), (False,), (1, True), (True, 2, 3), (0,), (1, 0), (0, 1), (2, 3, 0), (-1,), (1, -1), (-3, 2), (-LARGE,),
    ("1",), (1, "2"), ("",), (None,), (1, None), ([1],), ([],), ((),), ((1,),), (1, (2,)), ({},), ({1: 2},),
    (1,) * 17, tuple(range(1, 18)), (1,) * 16 + (True,), (1,) * 40,
    nested(10, 1), nested(9, ()), nested(8, (1, 2)),
]

NO_NUMBERS = [
    True, False, None, "", "0", "3", "-1", [], [0], [3], (), (0,), (1,), (True,), {}, {0: 0}, {3: "3"}, [[1]], ((1,),),
    nested(10, 1), nested(9, None),
]

# No thing here is parts of a row with one number or more.
NEVER_PARTS = [
    True, False, None, 0, 1, -1, 2, LARGE, "", "1", "+", "+1", [], [1], [1, -1], [0, 0, 0], {}, {0: 1}, {1: 1, -1: 1}, (),
    (True,), (False,), (2,), (-2,), (LARGE,), ("1",), ("+",), (None,), ([1],), ((1,),), ({},), (1, True), (False, 1),
    (1, -1, True), (1, 2), (-2, 1), (1, "1"), (1, [1]), (1, (1,)), (0, None), (1,) * 17, nested(10, 1), nested(9, (1,)),
]

NO_PAIRS = [
    True, False, None, 0, 1, -1, LARGE, "", "1", "(1, 2)", [], [(1, 2)], [[1, 2]], {}, {1: 2}, {(1, 2): 1},
    (1,), (1, 2), (0, 0), (None,), ("",), ("12",), (True,), ((),), ((1,),), ((1, 2, 3),), ([1, 2],), ({1: 2},), ([],),
    ((True, 1),), ((1, False),), ((1, "2"),), (("1", 2),), ((1, None),), ((1, [2]),), ((1, (2,)),), (((1, 2),),),
    ((1, 2), (3, 4), [5, 6]), ((1, 2), 3), ((1, 2), (3, 4), (5, True)), ((1, 2), (3,)), ((1, 2),) * 13, ((0, 0),) * 16,
    ((1, 2),) * 11 + ((1, None),), nested(10, 1), nested(9, ()), nested(8, (1, 2)),
]

NO_GOALS = [
    True, False, None, 0, 3, LARGE, "", "12", "(1, 2)", [], [1, 2], {}, {1: 2}, {0: 1, 1: 2}, (), (1,), (1, 2, 3), (0, 0, 0),
    (True, 1), (1, False), (True, False), (None, None), (1, None), ("1", 2), (1, "2"), ([1], 2), (1, (2,)), ((1, 2),),
    ((1, 2), (3, 4)), ({}, 1), (1, 2, True), nested(10, 1), nested(9, (1, 2)),
]

NO_TABLES = [
    True, False, None, 0, 1, LARGE, "", "{0: 1}", [], [(0, 1)], [0, 1], (), (0, 1), ((0, 1),), {},
    {0: 0}, {0: -1}, {1: 1, 0: 0}, {0: 1, 5: -LARGE}, {0: True}, {0: False}, {0: None}, {0: "1"}, {0: [1]}, {0: (1,)}, {0: {}},
    {0: {0: 1}}, {True: 1}, {False: 1}, {2: 1, True: 1}, {None: 1}, {"0": 1}, {"": 1}, {(0,): 1}, {(): 1}, {(0, 1): 1},
    {0: 1, "1": 1}, {0: 1, 1: True}, {0: 1, 1: None}, nested(10, 1), nested(9, {0: 1}),
]

SMALL_ROWS = (
    [()] + [(a,) for a in (1, 2, 3, 7)] + list(product((1, 2, 3, 5), repeat=2)) + list(product((1, 2, 4), repeat=3))
)

MORE_ROWS = [
    (3, 5, 7), (2, 4, 6), (6, 10, 15), (1, 3, 9, 27), (4, 4, 4, 4), (5, 1, 8, 2), (9, 6, 3, 12), (1, 1, 1, 1, 1),
    (2, 3, 5, 7, 11), (10, 1, 10, 1, 10), (8, 4, 2, 1, 16), (1, 2, 3, 4, 5, 6), (7, 7, 7, 7, 7, 7), (3, 1, 4, 1, 5, 9),
    (6, 12, 18, 24, 30, 36), (LARGE,), (LARGE, 1, LARGE), (10 ** 29, 10 ** 28, 5, 10 ** 29, 1, LARGE),
]

LONG_ROWS = [
    (1, 2, 3, 4, 5, 6, 7), (2, 4, 8, 16, 32, 64, 128, 256), (LARGE,) * 9, (3, 1, 4, 1, 5, 9, 2, 6, 5, 3),
    tuple(range(1, 12)), (5,) * 13, tuple(range(LARGE - 15, LARGE)), tuple(range(LARGE, LARGE - 16, -1)), (1,) * 16,
]

SIXTEENS = [
    tuple(range(1, 17)), (1,) * 16, (3, 1, 4, 1, 5, 9, 2, 6, 5, 3, 5, 8, 9, 7, 9, 3),
    tuple(3 ** place for place in range(16)), tuple(LARGE - 7 * place * place for place in range(16)),
]

ALL_ROWS = SMALL_ROWS + MORE_ROWS + LONG_ROWS

PAIR_ROWS = [
    (), ((0, 0),), ((3, 0),), ((0, -5),), ((2, 3),), ((-LARGE, LARGE),), ((0, 0), (0, 0)), ((1, 0), (0, 1)), ((2, 4), (1, 2)),
    ((2, -4), (-1, 2), (3, -6)), ((1, 1), (1, -1)), ((3, 1), (1, 3), (2, 2)), ((0, 0), (4, 6), (0, 0)),
    ((5, -3), (-2, 7), (4, 4), (1, 0)), ((1, 2), (1, 2), (1, 2), (1, 2)), ((2, 0), (0, 2), (2, 2), (-2, 2)),
    ((6, 0), (9, 0), (15, 0)), ((0, 2), (0, -2), (0, 3)), ((7, 7), (-7, -7), (7, -7), (1, 1), (2, 5)),
    ((3, 1), (4, 1), (5, 9), (2, 6), (5, 3), (5, 8)), ((LARGE, 1), (1, -LARGE), (LARGE, LARGE)),
]

TWELVE_PAIRS = ((3, 1), (4, -1), (-5, 9), (2, 6), (5, 3), (5, -8), (9, 7), (9, 3), (-2, 3), (8, 4), (6, 2), (0, 0))

TEN = (3, 1, 4, 1, 5, 9, 2, 6, 5, 35)
ELEVEN = (1,) * 11


def refused(function, *handed):
    """The class of the refusal, None where nothing is refused."""
    try:
        function(*handed)
    except PlusError as error:
        return type(error)
    return None


def all_signs(row):
    return list(product((-1, 1), repeat=len(row)))


def all_parts(row):
    return list(product((-1, 0, 1), repeat=len(row)))


def some_parts(row):
    """Parts of every sort for rows of whatever length, all of them for short ones."""
    if len(row) <= 3:
        return all_parts(row)
    some = [(part,) * len(row) for part in (-1, 0, 1)]
    for stride in (1, 2, 3, 5, 7):
        for start in range(3):
            some.append(tuple((start + place * stride + place // 3) % 3 - 1 for place in range(len(row))))
            some.append(tuple((place * stride // (start + 1)) % 2 * 2 - 1 for place in range(len(row))))
    return some


def plain_worth(row, parts):
    reached = 0
    for place in range(len(row)):
        if parts[place] == 1:
            reached += row[place]
        elif parts[place] == -1:
            reached -= row[place]
    return reached


def counted(row, choices):
    table = {}
    for chosen in choices:
        reached = plain_worth(row, chosen)
        table[reached] = table.get(reached, 0) + 1
    return table


@lru_cache(maxsize=None)
def signs_by_worth(row):
    """For each worth all signs that have it, in the order of tuples."""
    found = {}
    for signs in all_signs(row):
        found.setdefault(plain_worth(row, signs), []).append(signs)
    return found


def plain_pair_worth(pairs, signs):
    return (
        plain_worth([pair[0] for pair in pairs], signs),
        plain_worth([pair[1] for pair in pairs], signs),
    )


@lru_cache(maxsize=None)
def signs_by_pair(pairs):
    """For each worth, a pair, all signs that have it, in the order of tuples."""
    found = {}
    for signs in all_signs(pairs):
        found.setdefault(plain_pair_worth(pairs, signs), []).append(signs)
    return found


def goals_about(pairs):
    """Worths, goals beside them and between them, and goals beyond them on all sides."""
    near = {(0, 0), (1, 0), (0, 1), (-1, 1), (LARGE, 0), (-LARGE, LARGE)}
    for x, y in list(signs_by_pair(pairs))[:40]:
        near.update({(x, y), (x + 1, y), (x, y - 1), (x + 2, y + 2), (2 * x, 2 * y), (x // 2, y // 2), (y, x), (x, -y)})
    return sorted(near)


def plain_swing(row, signs):
    reached = 0
    sizes = [0]
    for number, sign in zip(row, signs, strict=True):
        reached += number * sign
        sizes.append(-reached if reached < 0 else reached)
    return max(sizes)


@lru_cache(maxsize=None)
def signs_by_swing(row):
    """For each swing all signs that have it, in the order of tuples."""
    found = {}
    for signs in all_signs(row):
        found.setdefault(plain_swing(row, signs), []).append(signs)
    return found


def numbers_about(row):
    """Worths, numbers beside them, the total, and numbers beyond it on both sides."""
    if sum(row) <= 12:
        return list(range(-sum(row) - 3, sum(row) + 4))
    near = set()
    for parts in some_parts(row):
        reached = plain_worth(row, parts)
        near.update((reached - 1, reached, reached + 1, -reached))
    near.update((0, 1, -1, sum(row), -sum(row), sum(row) + 1, -sum(row) - 1, sum(row) + 2, LARGE, -LARGE))
    return sorted(near)
