"""The package's files keep to the small part of Python that the program is written in."""

import ast
import builtins
import re
import unittest
from pathlib import Path

PACKAGE = Path(__file__).resolve().parent.parent / "plusless"

NODES = """Module FunctionDef arguments arg ClassDef Return Assign AugAssign For While If Raise Try ExceptHandler Import
ImportFrom alias Expr Pass Break Continue BoolOp And Or BinOp Add Sub Mult FloorDiv Mod Pow LShift RShift BitOr BitXor
BitAnd UnaryOp Invert Not UAdd USub Lambda IfExp Dict ListComp comprehension Compare Eq NotEq Lt LtE Gt GtE Is IsNot
In NotIn Call keyword FormattedValue JoinedStr Constant Attribute Subscript Name List Tuple Slice Load Store""".split()

OWN_NAMES = """len range enumerate zip min max sum abs sorted reversed int str bool list tuple dict set frozenset
isinstance ord repr any all divmod Exception ValueError TypeError KeyError IndexError LookupError ZeroDivisionError
ArithmeticError OverflowError RuntimeError NotImplementedError AttributeError StopIteration""".split()

OWN_METHODS = """append clear copy count endswith extend find get index insert isalnum isalpha isdigit islower isspace
isupper items join keys ljust lower lstrip partition pop remove replace reverse rfind rjust rpartition rsplit rstrip
setdefault split splitlines startswith strip update upper values zfill bit_length""".split()

WORDS_LEFT_OUT = re.compile(
    r"\b(type|typing|typing_extensions|enum|Enum|IntEnum|StrEnum|Flag|IntFlag|Generic|Protocol|ABC|ABCMeta|namedtuple"
    r"|NamedTuple|TypedDict|TYPE_CHECKING|abstractmethod)\b"
    r"|dataclass|overload|contextmanager"
)


NAMES_LEFT_OUT = "register mro elements open input version_info with_traceback add_note".split()

# An object's value is not called like these, which Python's own values have.
VALUES_LEFT_OUT = """items keys values pop update append clear extend insert remove reverse setdefault sort args encode
format""".split()


def each_file():
    for path in sorted(PACKAGE.rglob("*.py")):
        text = path.read_text(encoding="utf-8")
        yield path.name, text, ast.parse(text)


def bound_names(tree):
    bound = set()
    for node in ast.walk(tree):
        if isinstance(node, (ast.FunctionDef, ast.ClassDef)):
            bound.add(node.name)
        elif isinstance(node, ast.arg):
            bound.add(node.arg)
        elif isinstance(node, ast.alias):
            bound.add(node.name)
        elif isinstance(node, ast.Name) and isinstance(node.ctx, ast.Store):
            bound.add(node.id)
    return bound


def own_functions():
    return {node.name for name, text, tree in each_file() for node in ast.walk(tree) if isinstance(node, ast.FunctionDef)}


def class_methods():
    classes = [node for name, text, tree in each_file() for node in ast.walk(tree) if isinstance(node, ast.ClassDef)]
    return {made.name for node in classes for made in node.body if isinstance(made, ast.FunctionDef)}


def object_values():
    stored = set()
    for name, text, tree in each_file():
        for node in ast.walk(tree):
            if isinstance(node, ast.Attribute) and isinstance(node.ctx, ast.Store):
                stored.add(node.attr)
    return stored


def local_names(function):
    asked = {node.arg for node in ast.walk(function) if isinstance(node, ast.arg)}
    return asked | {node.id for node in ast.walk(function) if isinstance(node, ast.Name) and isinstance(node.ctx, ast.Store)}


def drawn_from(tree):
    return {node.module.split(".")[1] for node in tree.body if isinstance(node, ast.ImportFrom)}


class Language(unittest.TestCase):
    def test_files(self):
        for path in PACKAGE.rglob("*"):
            if "__pycache__" not in path.parts:
                self.assertRegex(path.name, r"\A[a-z0-9_]+(\.py)?\Z")
        self.assertTrue((PACKAGE / "__init__.py").is_file())

    def test_lines_and_signs(self):
        for name, text, tree in each_file():
            lines = text.splitlines()
            self.assertLessEqual(len(lines), 400, name)
            self.assertLessEqual(max([len(line) for line in lines]), 120, name)
            self.assertRegex(text, r"\A[ -~\n]*\Z", name)
            self.assertIsNone(WORDS_LEFT_OUT.search(text), name)

    def test_functions_are_small_and_plain(self):
        for name, text, tree in each_file():
            for node in ast.walk(tree):
                if isinstance(node, ast.FunctionDef):
                    self.assertLessEqual(node.end_lineno - node.lineno + 1, 40, (name, node.name))
                    self.assertEqual(node.decorator_list, [], (name, node.name))
                    asked = node.args
                    self.assertFalse(asked.vararg or asked.kwarg or asked.kwonlyargs, (name, node.name))

    def test_statements_and_expressions(self):
        for name, text, tree in each_file():
            for node in ast.walk(tree):
                self.assertIn(type(node).__name__, NODES, (name, getattr(node, "lineno", 0)))
                if isinstance(node, ast.Assign):
                    self.assertEqual(len(node.targets), 1, (name, node.lineno))
                if isinstance(node, ast.Constant):
                    self.assertIn(type(node.value), (int, str, bool, type(None)), (name, node.lineno))
                    self.assertNotIn("%", str(node.value), (name, node.lineno))
                if isinstance(node, ast.BinOp) and isinstance(node.op, ast.Pow):
                    self.assertIsInstance(node.right, ast.Constant, (name, node.lineno))
                    self.assertIn(node.right.value, range(65), (name, node.lineno))

    def test_names(self):
        for name, text, tree in each_file():
            bound = bound_names(tree)
            for told in bound - {"__init__"}:
                self.assertRegex(told, r"\A[A-Za-z][A-Za-z0-9_]*\Z", name)
                self.assertNotIn(told, NAMES_LEFT_OUT, name)
                self.assertFalse(hasattr(builtins, told), (name, told))
            for node in ast.walk(tree):
                if isinstance(node, ast.Name):
                    self.assertIn(node.id, bound | set(OWN_NAMES), (name, node.lineno))
                if isinstance(node, ast.Call) and isinstance(node.func, ast.Attribute):
                    self.assertIn(node.func.attr, own_functions() | set(OWN_METHODS), (name, node.lineno))

    def test_methods_and_values(self):
        self.assertEqual(class_methods() & object_values(), set())
        self.assertEqual(object_values() & set(VALUES_LEFT_OUT + NAMES_LEFT_OUT), set())
        self.assertEqual(class_methods() & set(NAMES_LEFT_OUT + ["format", "format_map"]), set())

    def test_locals_are_not_called_like_classes_or_imports(self):
        for name, text, tree in each_file():
            taken = {asked.name for node in tree.body if isinstance(node, ast.ImportFrom) for asked in node.names}
            taken |= {node.name for node in tree.body if isinstance(node, ast.ClassDef)}
            for node in ast.walk(tree):
                if isinstance(node, ast.FunctionDef):
                    self.assertEqual(local_names(node) & taken, set(), (name, node.name))

    def test_each_name_once_at_the_top(self):
        for name, text, tree in each_file():
            bound = [asked.name for node in tree.body if isinstance(node, ast.ImportFrom) for asked in node.names]
            bound += [node.name for node in tree.body if isinstance(node, (ast.FunctionDef, ast.ClassDef))]
            bound += [node.targets[0].id for node in tree.body if isinstance(node, ast.Assign)]
            self.assertEqual(len(bound), len(set(bound)), name)

    def test_no_two_files_draw_from_one_another(self):
        left = {name[:-3]: drawn_from(tree) for name, text, tree in each_file()}
        while left:
            free = [name for name in left if not left[name] & set(left)]
            self.assertNotEqual(free, [], sorted(left))
            left = {name: left[name] for name in left if name not in free}

    def test_imports(self):
        for name, text, tree in each_file():
            for node in ast.walk(tree):
                self.assertNotIsInstance(node, ast.Import, name)
                if isinstance(node, ast.ImportFrom):
                    self.assertIn(node, tree.body, name)
                    self.assertRegex(node.module, r"\Aplusless\.[a-z]+\Z", name)
                    drawn = ast.parse((PACKAGE / (node.module.split(".")[1] + ".py")).read_text(encoding="utf-8"))
                    defined = {getattr(made, "name", None) for made in drawn.body} | {
                        made.targets[0].id for made in drawn.body if isinstance(made, ast.Assign)
                    }
                    for asked in node.names:
                        self.assertIn(asked.name, defined, name)


if __name__ == "__main__":
    unittest.main()
