import unittest
from copy import deepcopy

from plusless import changes, evenness, every, halves, inturn, pairs, rows, tables, texts
from plusless.desk import Desk
from plusless.keeper import Keeper
from samples import LARGE, TEN, refused

LAYERS = [(0,), (-3, 3), (-8, -2, 2, 8)]

ASKED = [
    (rows.is_row, ([3, [5]],)), (rows.is_row, ({"a": [1]},)), (rows.are_parts, ([1, -1], (3, 5))),
    (rows.are_signs, ({1: [1]}, (3, 5))), (rows.total, ((3, 5),)), (rows.worth, ((3, 5), (1, 0))),
    (rows.turned, ((3, 5), (1, 0))), (rows.lots, ((3, 5), (1, -1))), (rows.kept, ((3, 5), (1, 0))),
    (texts.show, ((3, 5), (1, 0))), (texts.read, ("+3 .5",)),
    (tables.sign_table, ((3, 5),)), (tables.sign_table, ((),)), (tables.part_table, ((3, 5),)), (tables.part_table, ((),)),
    (tables.part_table, (TEN,)), (tables.signs_to, ((3, 5), 2)), (tables.parts_to, ((3, 5), 3)),
    (tables.sign_ways, ((3, 5), 2)), (tables.part_ways, ((3, 5), 2)),
    (tables.is_barred, (deepcopy(LAYERS), (3, 5), 1)), (tables.is_wide_barred, (deepcopy(LAYERS), (3, 5), 1)),
    (tables.is_barred, ([[0], {3: [3]}, None], (3, 5), 1)), (tables.is_rest, ([2, [3]], (3, 5), 1)),
    (tables.layers_for, ((3, 5), 1)), (tables.wide_layers_for, ((3, 5), LARGE)), (tables.layers_for, ((), 1)),
    (tables.rest_for, ((3, 5), 1)),
    (halves.half_worths, ((3, 5, 7),)), (halves.many_met, ((3, 5), 2)), (halves.first_met, ((3, 5), 2)),
    (halves.stair_for, ((3, 5), 1)), (halves.is_stair, (((0, 1), (0, 0), (1, 0)), (3, 5), 1)),
    (halves.is_stair, ([[0, 1], [0, 0], {1: 0}], (3, 5), 1)), (halves.is_stair, (((0, [1]), {}), (3, 5), 1)),
    (halves.below, ((3, 5), 1)), (halves.above, ((3, 5), 1)),
    (evenness.unevenness, ((3, 5, 7),)), (evenness.evenest, ((3, 5, 7),)), (evenness.evenest_many, ((3, 5, 7),)),
    (evenness.differences, ((3, 7, 5),)), (evenness.differences, ((),)), (evenness.difference_signs, ((3, 7, 5),)),
    (evenness.uneven_bound, (deepcopy(LAYERS), (3, 5))), (evenness.uneven_bound, ([[0], {3: [3]}, None], (3, 5))),
    (evenness.uneven_paper, ((3, 5),)), (evenness.uneven_paper, ((),)),
    (every.every_by_parts, ((3, 1),)), (every.every_by_signs, ((3, 1),)), (every.missed_by_parts, ((7, 1),)),
    (every.missed_by_signs, ((7, 1),)), (every.fewest_by_parts, (7,)), (every.fewest_by_signs, (7,)),
    (every.row_by_parts, (7,)), (every.row_by_signs, (7,)), (every.weighed, ((3, 1), 2)),
    (inturn.swing, ((3, 5), (1, -1))), (inturn.least_swing, ((3, 5, 7),)), (inturn.calm, ((3, 5, 7),)),
    (inturn.calm_many, ((3, 5, 7), 6)), (inturn.leaning, ((3, 5, 7),)),
    (inturn.is_swing_paper, ([(0,), (-3, 3), ()], (3, 7), 3)), (inturn.is_swing_paper, ([[0], {3: [3]}, ()], (3, 7), 3)),
    (inturn.swing_paper, ((3, 7), 3)), (inturn.swing_paper, ((), -1)), (inturn.swing_paper, ((3, 7), -1)),
    (pairs.are_pairs, ([[1, 2], {3: [4]}],)), (pairs.are_pairs, (((1, 2), [3, 4]),)),
    (pairs.pair_worth, (((1, 2), (3, 4)), (1, -1))), (pairs.pair_ways, (((1, 2), (3, 4)), (2, 2))),
    (pairs.pair_signs, (((1, 2), (3, 4)), (2, 2))), (pairs.least_size, (((1, 2), (3, 4)),)),
    (pairs.least_signs, (((1, 2), (3, 4)),)), (pairs.walls, ((1, 0), ((1, 2), (3, 4)), (9, 9))),
    (pairs.walls, ([1, [0]], ((1, 2), (3, 4)), (9, 9))), (pairs.is_pair_rest, ((1, 0, 2), ((1, 2), (3, 4)), (9, 9))),
    (pairs.is_pair_rest, ({1: [0]}, ((1, 2), (3, 4)), (9, 9))), (pairs.wall_for, (((1, 2), (3, 4)), (9, 9))),
    (changes.joined, ((3, 5), (7,))), (changes.grown, ((3, 5), 7)), (changes.mixed, ((3, 5), (1, 0))),
    (changes.without, ((3, 5), 1)), (changes.multiplied, ({3: 2, 1: 1}, {0: 1})), (changes.multiplied, ({0: 1}, {3: 2, 1: 1})),
    (changes.shifted, ({3: 2, 1: 1}, 0)), (changes.shifted, ({3: 2, 1: 1}, 4)), (changes.taken_out, ({2: 1, 0: 2, -2: 1}, 1)),
    (changes.taken_out, ({5: 1, 0: 2}, 1)), (changes.part_taken_out, ({1: 1, 0: 1, -1: 1}, 1)),
    (changes.part_taken_out, ({1: 1, 0: 2, -1: 2}, 1)),
]

REFUSED = [
    (rows.total, ([3, [5]],)), (rows.worth, ((3, 5), [1, [1]])), (texts.read, ([["+3"]],)), (tables.sign_table, ({3: [5]},)),
    (tables.signs_to, ((3, 5), [[2]])), (halves.many_met, ((3, 5), {2: [2]})), (every.row_by_parts, ([7],)),
    (inturn.swing, ((3, 5), [1, -1])), (inturn.swing_paper, ((3, 5), {3: [3]})), (pairs.least_size, ([[1, 2]],)),
    (pairs.pair_ways, (((1, 2),), [1, [2]])), (changes.joined, ([3], {5: [5]})), (changes.mixed, ((3, 5), [1, 0])),
    (changes.without, ((3, 5), [1])), (changes.multiplied, ({3: 2, 1: [1]}, {0: 0})), (changes.shifted, ({3: 2}, [4])),
    (changes.taken_out, ({2: 1, 0: 2, -2: 0}, 1)), (changes.part_taken_out, ({0: 1}, {1: [1]})),
    (Desk().say, (["put", ["3"]],)), (Desk().say, ({"row": ["row"]},)), (Keeper().put, ([[3]],)), (Keeper().ways, ({3: [3]},)),
]


def spoil(told):
    """Changes what can be changed of a thing that was told."""
    if isinstance(told, dict):
        told.clear()
        told["spoilt"] = True
    elif isinstance(told, list):
        told.clear()
        told.append("spoilt")


class Unchanged(unittest.TestCase):
    def test_what_is_handed_in_stays(self):
        for function, handed in ASKED:
            before = deepcopy(handed)
            function(*handed)
            self.assertEqual(handed, before, function.__name__)
            self.assertEqual(repr(handed), repr(before), function.__name__)

    def test_what_is_refused_stays(self):
        for function, handed in REFUSED:
            before = deepcopy(handed)
            error = refused(function, *handed)
            self.assertIsNotNone(error, handed)
            self.assertIs(refused(function, *handed), error, handed)
            self.assertEqual(repr(handed), repr(before), function.__name__)

    def test_the_same_asked_again(self):
        for function, handed in ASKED:
            self.assertEqual(repr(function(*handed)), repr(function(*deepcopy(handed))), function.__name__)

    def test_what_is_told_is_new(self):
        for function, handed in ASKED:
            told = function(*handed)
            before = deepcopy(told)
            if isinstance(told, (list, dict)):
                self.assertIsNot(function(*handed), told, function.__name__)
            spoil(told)
            self.assertEqual(function(*handed), before, function.__name__)

    def test_what_is_done_to_a_handed_thing_changes_no_answer(self):
        for function, handed in ASKED:
            own = deepcopy(handed)
            told = function(*own)
            before = deepcopy(told)
            for thing in own:
                spoil(thing)
            self.assertEqual(told, before, function.__name__)

    def test_what_is_done_to_an_answer_changes_no_handed_thing(self):
        for function, handed in ASKED:
            before = deepcopy(handed)
            spoil(function(*handed))
            self.assertEqual(handed, before, function.__name__)

    def test_kinds_of_what_is_told(self):
        self.assertIs(type(tables.sign_table((3, 5))), dict)
        self.assertIs(type(tables.part_table((3, 5))), dict)
        for function in (changes.taken_out, changes.shifted):
            self.assertIs(type(function({1: 1, -1: 1}, 1)), dict)
        self.assertIs(type(changes.part_taken_out({1: 1, 0: 1, -1: 1}, 1)), dict)
        for row in (changes.joined((3,), (5,)), changes.grown((3, 5), 2), changes.mixed((3, 5), (1, 0)), changes.without((3,), 0)):
            self.assertIs(type(row), tuple)
        told = (tables.layers_for((3, 5), 1), tables.wide_layers_for((3, 5), 1))
        told += (evenness.uneven_paper((3, 5)), evenness.differences((3, 5)), evenness.differences(()))
        told += (inturn.swing_paper((3, 7), 3), inturn.swing_paper((3, 7), -1), inturn.swing_paper((), -1))
        for layers in told:
            self.assertIs(type(layers), list)
            self.assertEqual({type(layer) for layer in layers}, {tuple})

    def test_a_refused_answer_changes_nothing(self):
        broken = [(0,), [3], (-8, -2, 2, 8)]
        self.assertIs(tables.is_barred(broken, (3, 5), 1), False)
        self.assertEqual(broken, [(0,), [3], (-8, -2, 2, 8)])
        broken[1] = (-3, 3)
        self.assertIs(tables.is_barred(broken, (3, 5), 1), True)


if __name__ == "__main__":
    unittest.main()
