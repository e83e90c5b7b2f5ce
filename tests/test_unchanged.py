import unittest
from copy import deepcopy

from plusless import rows, tables, texts
from samples import LARGE, TEN

LAYERS = [(0,), (-3, 3), (-8, -2, 2, 8)]

ASKED = [
    (rows.is_row, ([3, [5]],)), (rows.is_row, ({"a": [1]},)), (rows.are_parts, ([1, -1], (3, 5))),
    (rows.are_signs, ({1: [1]}, (3, 5))), (rows.total, ((3, 5),)), (rows.worth, ((3, 5), (1, 0))),
    (rows.turned, ((3, 5), (1, 0))), (rows.lots, ((3, 5), (1, -1))), (rows.kept, ((3, 5), (1, 0))),
    (texts.show, ((3, 5), (1, 0))), (texts.read, ("+3 .5",)),
    (tables.sign_table, ((3, 5),)), (tables.sign_table, ((),)), (tables.part_table, ((3, 5),)), (tables.part_table, ((),)),
    (tables.part_table, (TEN,)), (tables.signs_to, ((3, 5), 2)), (tables.parts_to, ((3, 5), 3)),
    (tables.sign_ways, ((3, 5), 2)), (tables.part_ways, ((3, 5), 2)),
    (tables.is_barred, (deepcopy(LAYERS), (3, 5), 1)), (tables.is_wide_barred, (deepcopy(LAYERS), (3, 5), 1)),
    (tables.is_barred, ([[0], {3: [3]}, None], (3, 5), 1)), (tables.is_rest, ([2, [3]], (3, 5), 1)),
    (tables.layers_for, ((3, 5), 1)), (tables.wide_layers_for, ((3, 5), LARGE)), (tables.layers_for, ((), 1)),
    (tables.rest_for, ((3, 5), 1)),
]


def spoil(told):
    """Changes what can be changed of a thing that was told."""
    if isinstance(told, dict):
        told.clear()
        told["spoilt"] = True
    elif isinstance(told, list):
        told.clear()
        told.append("spoilt")


class Unchanged(unittest.TestCase):
    def test_what_is_handed_in_stays(self):
        for function, handed in ASKED:
            before = deepcopy(handed)
            function(*handed)
            self.assertEqual(handed, before, function.__name__)
            self.assertEqual(repr(handed), repr(before), function.__name__)

    def test_the_same_asked_again(self):
        for function, handed in ASKED:
            self.assertEqual(repr(function(*handed)), repr(function(*deepcopy(handed))), function.__name__)

    def test_what_is_told_is_new(self):
        for function, handed in ASKED:
            told = function(*handed)
            before = deepcopy(told)
            if isinstance(told, (list, dict)):
                self.assertIsNot(function(*handed), told, function.__name__)
            spoil(told)
            self.assertEqual(function(*handed), before, function.__name__)

    def test_kinds_of_what_is_told(self):
        self.assertIs(type(tables.sign_table((3, 5))), dict)
        self.assertIs(type(tables.part_table((3, 5))), dict)
        for layers in (tables.layers_for((3, 5), 1), tables.wide_layers_for((3, 5), 1)):
            self.assertIs(type(layers), list)
            self.assertEqual({type(layer) for layer in layers}, {tuple})

    def test_a_refused_answer_changes_nothing(self):
        broken = [(0,), [3], (-8, -2, 2, 8)]
        self.assertIs(tables.is_barred(broken, (3, 5), 1), False)
        self.assertEqual(broken, [(0,), [3], (-8, -2, 2, 8)])
        broken[1] = (-3, 3)
        self.assertIs(tables.is_barred(broken, (3, 5), 1), True)


if __name__ == "__main__":
    unittest.main()
