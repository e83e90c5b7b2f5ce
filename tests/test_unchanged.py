import unittest
from copy import deepcopy

from plusless import evenness, every, halves, rows, tables, texts
from samples import LARGE, TEN

LAYERS = [(0,), (-3, 3), (-8, -2, 2, 8)]

ASKED = [
    (rows.is_row, ([3, [5]],)), (rows.is_row, ({"a": [1]},)), (rows.are_parts, ([1, -1], (3, 5))),
    (rows.are_signs, ({1: [1]}, (3, 5))), (rows.total, ((3, 5),)), (rows.worth, ((3, 5), (1, 0))),
    (rows.turned, ((3, 5), (1, 0))), (rows.lots, ((3, 5), (1, -1))), (rows.kept, ((3, 5), (1, 0))),
    (texts.show, ((3, 5), (1, 0))), (texts.read, ("+3 .5",)),
    (tables.sign_table, ((3, 5),)), (tables.sign_table, ((),)), (tables.part_table, ((3, 5),)), (tables.part_table, ((),)),
    (tables.part_table, (TEN,)), (tables.signs_to, ((3, 5), 2)), (tables.parts_to, ((3, 5), 3)),
    (tables.sign_ways, ((3, 5), 2)), (tables.part_ways, ((3, 5), 2)),
    (tables.is_barred, (deepcopy(LAYERS), (3, 5), 1)), (tables.is_wide_barred, (deepcopy(LAYERS), (3, 5), 1)),
    (tables.is_barred, ([[0], {3: [3]}, None], (3, 5), 1)), (tables.is_rest, ([2, [3]], (3, 5), 1)),
    (tables.layers_for, ((3, 5), 1)), (tables.wide_layers_for, ((3, 5), LARGE)), (tables.layers_for, ((), 1)),
    (tables.rest_for, ((3, 5), 1)),
    (halves.half_worths, ((3, 5, 7),)), (halves.many_met, ((3, 5), 2)), (halves.first_met, ((3, 5), 2)),
    (halves.stair_for, ((3, 5), 1)), (halves.is_stair, (((0, 1), (0, 0), (1, 0)), (3, 5), 1)),
    (halves.is_stair, ([[0, 1], [0, 0], {1: 0}], (3, 5), 1)), (halves.is_stair, (((0, [1]), {}), (3, 5), 1)),
    (halves.below, ((3, 5), 1)), (halves.above, ((3, 5), 1)),
    (evenness.unevenness, ((3, 5, 7),)), (evenness.evenest, ((3, 5, 7),)), (evenness.evenest_many, ((3, 5, 7),)),
    (evenness.differences, ((3, 7, 5),)), (evenness.differences, ((),)), (evenness.difference_signs, ((3, 7, 5),)),
    (evenness.uneven_bound, (deepcopy(LAYERS), (3, 5))), (evenness.uneven_bound, ([[0], {3: [3]}, None], (3, 5))),
    (evenness.uneven_paper, ((3, 5),)), (evenness.uneven_paper, ((),)),
    (every.every_by_parts, ((3, 1),)), (every.every_by_signs, ((3, 1),)), (every.missed_by_parts, ((7, 1),)),
    (every.missed_by_signs, ((7, 1),)), (every.fewest_by_parts, (7,)), (every.fewest_by_signs, (7,)),
    (every.row_by_parts, (7,)), (every.row_by_signs, (7,)), (every.weighed, ((3, 1), 2)),
]


def spoil(told):
    """Changes what can be changed of a thing that was told."""
    if isinstance(told, dict):
        told.clear()
        told["spoilt"] = True
    elif isinstance(told, list):
        told.clear()
        told.append("spoilt")


class Unchanged(unittest.TestCase):
    def test_what_is_handed_in_stays(self):
        for function, handed in ASKED:
            before = deepcopy(handed)
            function(*handed)
            self.assertEqual(handed, before, function.__name__)
            self.assertEqual(repr(handed), repr(before), function.__name__)

    def test_the_same_asked_again(self):
        for function, handed in ASKED:
            self.assertEqual(repr(function(*handed)), repr(function(*deepcopy(handed))), function.__name__)

    def test_what_is_told_is_new(self):
        for function, handed in ASKED:
            told = function(*handed)
            before = deepcopy(told)
            if isinstance(told, (list, dict)):
                self.assertIsNot(function(*handed), told, function.__name__)
            spoil(told)
            self.assertEqual(function(*handed), before, function.__name__)

    def test_kinds_of_what_is_told(self):
        self.assertIs(type(tables.sign_table((3, 5))), dict)
        self.assertIs(type(tables.part_table((3, 5))), dict)
        told = (tables.layers_for((3, 5), 1), tables.wide_layers_for((3, 5), 1))
        told += (evenness.uneven_paper((3, 5)), evenness.differences((3, 5)), evenness.differences(()))
        for layers in told:
            self.assertIs(type(layers), list)
            self.assertEqual({type(layer) for layer in layers}, {tuple})

    def test_a_refused_answer_changes_nothing(self):
        broken = [(0,), [3], (-8, -2, 2, 8)]
        self.assertIs(tables.is_barred(broken, (3, 5), 1), False)
        self.assertEqual(broken, [(0,), [3], (-8, -2, 2, 8)])
        broken[1] = (-3, 3)
        self.assertIs(tables.is_barred(broken, (3, 5), 1), True)


if __name__ == "__main__":
    unittest.main()
