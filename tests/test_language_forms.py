"""The package's files keep to the forms in which names, classes, walks and sets may stand (L3 to L8, L12 to L28)."""

import ast
import re
import unittest

from test_language import each_file

PLAIN_NODES = (
    ast.Constant, ast.List, ast.Tuple, ast.Dict, ast.UnaryOp, ast.USub, ast.Name, ast.Load,
)
TWO_UNDERSCORES = ("__init__", "__eq__", "__repr__", "__str__", "__len__")
KINDS_ASKED = ("int", "str", "bool", "list", "tuple", "dict")
KEYWORDS = {
    "sorted": ("key", "reverse"), "min": ("key", "default"), "max": ("key", "default"), "sum": ("start",),
    "enumerate": ("start",), "zip": ("strict",),
}
WALKS = ("zip", "enumerate", "reversed", "range")
WALKED_METHODS = ("items", "keys", "values")
WALKERS = ("list", "tuple", "dict", "sorted", "sum", "any", "all", "enumerate", "zip")
READERS = ("len", "sorted", "list", "tuple", "dict", "min", "max", "sum", "any", "all", "enumerate", "zip")
READING_METHODS = ("get", "items", "keys", "values", "index", "count", "copy")
CHANGING_METHODS = ("append", "clear", "extend", "insert", "pop", "remove", "reverse", "setdefault", "update")
NEVER_NAMES = """attrgetter breakpoint builtins compile copyright credits delattr dir eval exec exit gc getattr globals hasattr
help id importlib license locals methodcaller os quit setattr super type vars sys chr print open input""".split()


def parents_of(tree):
    return {child: node for node in ast.walk(tree) for child in ast.iter_child_nodes(node)}


def each_node(*kinds):
    for name, text, tree in each_file():
        parents = parents_of(tree)
        for node in ast.walk(tree):
            if isinstance(node, kinds):
                yield (name, getattr(node, "lineno", 0)), node, parents


def called(node):
    """The plain name that a call calls, None of all else."""
    return node.func.id if isinstance(node, ast.Call) and isinstance(node.func, ast.Name) else None


def called_method(node):
    return node.func.attr if isinstance(node, ast.Call) and isinstance(node.func, ast.Attribute) else None


def is_walked(node, parent):
    if isinstance(parent, (ast.For, ast.comprehension)):
        return parent.iter is node
    if called(parent) in WALKERS:
        return parent.args[0] is node or called(parent) == "zip"
    if called(parent) in ("min", "max"):
        return parent.args == [node]
    return called_method(parent) == "join" and isinstance(parent.func.value, ast.Constant)


def top_names(tree, kinds):
    return {node.targets[0].id for node in tree.body if isinstance(node, ast.Assign) and isinstance(node.value, kinds)}


def package_classes():
    return {node.name for where, node, parents in each_node(ast.ClassDef)}


class Top(unittest.TestCase):
    def test_what_stands_at_the_top(self):
        for name, text, tree in each_file():
            self.assertIsInstance(tree.body[0].value, ast.Constant, name)
            defined = set()
            for node in tree.body[1:]:
                self.assertIsInstance(node, (ast.ImportFrom, ast.FunctionDef, ast.ClassDef, ast.Assign), name)
                if isinstance(node, ast.FunctionDef):
                    defined.add(node.name)
                if isinstance(node, ast.Assign):
                    self.assertIsInstance(node.targets[0], ast.Name, (name, node.lineno))
                    self.assert_plain(node.value, defined, (name, node.lineno))

    def assert_plain(self, value, defined, where):
        for inner in ast.walk(value):
            self.assertIsInstance(inner, PLAIN_NODES, where)
            if isinstance(inner, ast.Name):
                self.assertIn(inner.id, defined, where)
            if inner is not value:
                self.assertNotIsInstance(inner, (ast.List, ast.Dict), where)

    def test_lists_and_dicts_of_the_top_are_only_read(self):
        for name, text, tree in each_file():
            kept = top_names(tree, (ast.List, ast.Dict))
            parents = parents_of(tree)
            for node in ast.walk(tree):
                if isinstance(node, ast.Name) and node.id in kept and isinstance(node.ctx, ast.Load):
                    self.assertTrue(self.is_read(node, parents), (name, node.lineno))

    def is_read(self, node, parents):
        parent = parents[node]
        if isinstance(parent, ast.Subscript):
            return parent.value is node and isinstance(parent.ctx, ast.Load)
        if isinstance(parent, ast.Attribute):
            return parent.attr in READING_METHODS and isinstance(parents[parent], ast.Call)
        return isinstance(parent, (ast.Compare, ast.For, ast.comprehension)) or called(parent) in READERS


class Functions(unittest.TestCase):
    def test_no_annotations_and_plain_defaults(self):
        for where, node, parents in each_node(ast.FunctionDef, ast.Lambda):
            self.assertIsNone(getattr(node, "returns", None), where)
            for asked in node.args.args:
                self.assertIsNone(asked.annotation, where)
            for default in node.args.defaults:
                self.assertIsInstance(default, (ast.Constant, ast.Tuple, ast.UnaryOp), where)
            self.assertEqual(node.args.posonlyargs, [], where)

    def test_one_lambda_a_line(self):
        lines = [where for where, node, parents in each_node(ast.Lambda)]
        self.assertEqual(len(lines), len(set(lines)))


class Classes(unittest.TestCase):
    def test_bodies_and_bases(self):
        for where, node, parents in each_node(ast.ClassDef):
            self.assertIsInstance(parents[node], ast.Module, where)
            self.assertLessEqual(len(node.bases), 1, where)
            self.assertEqual(node.decorator_list + node.keywords, [], where)
            methods = [made.name for made in node.body if isinstance(made, ast.FunctionDef)]
            self.assertEqual(len(methods), len(set(methods)), where)
            for made in node.body:
                self.assertIsInstance(made, (ast.FunctionDef, ast.Pass), where)
            for method in methods:
                self.assertTrue(not method.startswith("_") or method in TWO_UNDERSCORES, where)

    def test_where_classes_stand(self):
        classes = package_classes()
        for where, node, parents in each_node(ast.Name):
            if node.id in classes:
                parent = parents[node]
                right = isinstance(parent, (ast.ClassDef, ast.ExceptHandler, ast.Raise)) or called(parent) == node.id
                self.assertTrue(right or called(parent) == "isinstance", where)

    def test_values_are_given_through_a_local_name(self):
        for where, node, parents in each_node(ast.Attribute):
            self.assertFalse(node.attr.startswith("_"), where)
            if isinstance(node.ctx, ast.Store):
                self.assertIsInstance(node.value, ast.Name, where)
                self.assertNotIn(node.value.id, package_classes(), where)

    def test_init_gives_back_nothing(self):
        for where, node, parents in each_node(ast.FunctionDef):
            if node.name == "__init__":
                self.assertFalse([inner for inner in ast.walk(node) if isinstance(inner, ast.Return)], where)


class Statements(unittest.TestCase):
    def test_no_else_behind_a_loop(self):
        for where, node, parents in each_node(ast.For, ast.While):
            self.assertEqual(node.orelse, [], where)

    def test_errors_are_made_on_the_spot_and_never_taken(self):
        self.assertEqual([where for where, node, parents in each_node(ast.Try)], [])
        for where, node, parents in each_node(ast.Raise):
            self.assertIn(called(node.exc), package_classes(), where)
            self.assertIsNone(node.cause, where)

    def test_only_calls_stand_by_themselves(self):
        for where, node, parents in each_node(ast.Expr):
            if where[1] > 1:
                self.assertIsInstance(node.value, ast.Call, where)

    def test_what_is_walked_is_not_changed(self):
        for where, node, parents in each_node(ast.For):
            walked = {inner.id for inner in ast.walk(node.iter) if isinstance(inner, ast.Name)}
            for inner in [inner for row in node.body for inner in ast.walk(row)]:
                if isinstance(inner, ast.Subscript) and isinstance(inner.ctx, ast.Store) and isinstance(inner.value, ast.Name):
                    self.assertNotIn(inner.value.id, walked, where)
                if called_method(inner) in CHANGING_METHODS and isinstance(inner.func.value, ast.Name):
                    self.assertNotIn(inner.func.value.id, walked, where)


class Expressions(unittest.TestCase):
    def test_is_stands_beside_none_and_truths(self):
        for where, node, parents in each_node(ast.Compare):
            for sign, other in zip(node.ops, node.comparators):
                if isinstance(sign, (ast.Is, ast.IsNot)):
                    self.assertIsInstance(other, ast.Constant, where)
                    self.assertIn(other.value, (None, True, False), where)

    def test_comprehensions_have_one_walk(self):
        for where, node, parents in each_node(ast.ListComp):
            self.assertEqual(len(node.generators), 1, where)
            self.assertLessEqual(len(node.generators[0].ifs), 1, where)

    def test_written_texts(self):
        for where, node, parents in each_node(ast.FormattedValue):
            self.assertIsInstance(node.value, ast.Name, where)
            self.assertIn(node.conversion, (-1, ord("r")), where)
            self.assertIsNone(node.format_spec, where)
        for name, text, tree in each_file():
            self.assertIsNone(re.search(r"\\[^nt\\'\"]", text), name)

    def test_names_that_are_not_used(self):
        for where, node, parents in each_node(ast.Name):
            self.assertNotIn(node.id, NEVER_NAMES, where)

    def test_keywords_and_kinds_asked(self):
        for where, node, parents in each_node(ast.Call):
            for given in node.keywords:
                self.assertIn(given.arg, KEYWORDS.get(called(node), ()), where)
                if given.arg in ("reverse", "strict"):
                    self.assertIsInstance(given.value, ast.Constant, where)
            if called(node) == "isinstance":
                asked = node.args[1].elts if isinstance(node.args[1], ast.Tuple) else [node.args[1]]
                for kind in asked:
                    self.assertIn(kind.id, KINDS_ASKED + tuple(package_classes()), where)

    def test_walked_at_once(self):
        for where, node, parents in each_node(ast.Call):
            if called(node) in WALKS or called_method(node) in WALKED_METHODS:
                self.assertTrue(is_walked(node, parents[node]), where)

    def test_no_sets(self):
        for where, node, parents in each_node(ast.Name):
            self.assertNotIn(node.id, ("set", "frozenset"), where)

    def test_methods_are_called_where_they_stand(self):
        methods = {node.name for where, node, parents in each_node(ast.FunctionDef) if isinstance(parents[node], ast.ClassDef)}
        for where, node, parents in each_node(ast.Attribute):
            if node.attr in methods or node.attr in READING_METHODS + CHANGING_METHODS:
                self.assertTrue(isinstance(parents[node], ast.Call) and parents[node].func is node, where)

    def test_python_s_own_are_called_and_not_kept(self):
        for where, node, parents in each_node(ast.Name):
            if node.id in KEYWORDS or node.id in WALKS + WALKERS + ("len", "abs", "isinstance"):
                parent = parents[node]
                right = called(parent) == node.id and parent.func is node
                self.assertTrue(right or isinstance(parent, ast.keyword) or called(parent) == "isinstance"
                                or isinstance(parent, ast.Tuple) and called(parents[parent]) == "isinstance", where)


if __name__ == "__main__":
    unittest.main()
