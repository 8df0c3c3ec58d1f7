"""The package keeps to the small part of Python that it is written in, as far as its files show it."""

import ast
import builtins
import re
import unittest
from pathlib import Path

PACKAGE = Path(__file__).resolve().parent.parent / "likewise"
FILES = sorted(PACKAGE.rglob("*.py"))

NODES = set(
    "Module FunctionDef arguments arg ClassDef Return Assign AugAssign For While If Raise Try ExceptHandler "
    "ImportFrom alias Expr Pass Break Continue BoolOp And Or BinOp Add Sub Mult FloorDiv Mod Pow LShift RShift "
    "BitOr BitXor BitAnd UnaryOp Invert Not UAdd USub Lambda IfExp Dict Set ListComp comprehension Compare Eq "
    "NotEq Lt LtE Gt GtE Is IsNot In NotIn Call keyword Constant JoinedStr FormattedValue Attribute Subscript "
    "Slice Name List Tuple Load Store".split()
)

OWN_NAMES = set(
    "len range enumerate zip min max sum abs sorted reversed int str bool list tuple dict set isinstance ord repr "
    "any all divmod Exception ValueError TypeError KeyError IndexError LookupError ZeroDivisionError "
    "ArithmeticError OverflowError RuntimeError NotImplementedError StopIteration".split()
)

WORDS_NOWHERE = re.compile(
    r"\b(type|typing|typing_extensions|enum|Enum|IntEnum|StrEnum|Flag|IntFlag|Generic|Protocol|ABC|ABCMeta|"
    r"namedtuple|NamedTuple|TypedDict|TYPE_CHECKING|abstractmethod)\b|dataclass|overload|contextmanager"
)

METHODS = ("__init__", "__eq__", "__repr__", "__str__", "__len__")


def nodes_of(kind):
    """Every node of a kind in the package, with where it stands."""
    for file in FILES:
        for node in ast.walk(ast.parse(file.read_text())):
            if isinstance(node, kind):
                yield f"{file.name}:{getattr(node, 'lineno', 0)}", node


class Files(unittest.TestCase):
    def test_nothing_but_plain_files(self):
        self.assertIn(PACKAGE / "__init__.py", FILES)
        for path in PACKAGE.rglob("*"):
            if "__pycache__" not in path.parts:
                self.assertRegex(path.name, r"^([a-z][a-z0-9_]*|__init__|__main__)\.py$")

    def test_sizes_and_signs(self):
        for file in FILES:
            lines = file.read_text().split("\n")
            self.assertLessEqual(len(lines), 401, file.name)
            for number, line in enumerate(lines, start=1):
                with self.subTest(f"{file.name}:{number}"):
                    self.assertLessEqual(len(line), 120)
                    self.assertRegex(line, r"^[ -~]*$")
                    self.assertNotRegex(line, WORDS_NOWHERE)


class Forms(unittest.TestCase):
    def test_allowed_forms_alone(self):
        for where, node in nodes_of(ast.AST):
            self.assertIn(type(node).__name__, NODES, where)

    def test_functions(self):
        for where, node in nodes_of(ast.FunctionDef):
            with self.subTest(where):
                self.assertLessEqual(node.end_lineno - node.lineno + 1, 40)
                self.assertEqual(node.decorator_list, [])
                self.assertIsNone(node.args.vararg or node.args.kwarg)
                self.assertEqual(node.args.kwonlyargs + node.args.posonlyargs, [])
                self.assertTrue(node.name in METHODS or node.name[0] != "_")

    def test_classes(self):
        for where, node in nodes_of(ast.ClassDef):
            with self.subTest(where):
                self.assertEqual(node.decorator_list + node.keywords, [])
                self.assertLessEqual(len(node.bases), 1)
                for part in node.body:
                    self.assertIsInstance(part, (ast.FunctionDef, ast.Expr, ast.Pass))

    def test_imports_are_the_packages_own(self):
        for where, node in nodes_of(ast.ImportFrom):
            with self.subTest(where):
                self.assertEqual(node.level, 0)
                self.assertRegex(node.module, r"^likewise\.[a-z0-9_]+$")
                self.assertNotIn("*", [alias.name for alias in node.names])

    def test_statements(self):
        for where, node in nodes_of((ast.For, ast.While)):
            self.assertEqual(node.orelse, [], where)
        for where, node in nodes_of(ast.Try):
            self.assertEqual(node.finalbody, [], where)
        for where, node in nodes_of(ast.Assign):
            self.assertEqual(len(node.targets), 1, where)

    def test_values(self):
        for where, node in nodes_of(ast.Constant):
            self.assertIn(type(node.value), (int, str, bool, type(None)), where)
        for where, node in nodes_of(ast.ListComp):
            self.assertEqual(len(node.generators), 1, where)
            self.assertLessEqual(len(node.generators[0].ifs), 1, where)
        for where, node in nodes_of(ast.Compare):
            if any(isinstance(sign, (ast.Is, ast.IsNot)) for sign in node.ops):
                self.assertIn(node.comparators[0].value, (None, True, False), where)

    def test_names(self):
        for where, node in nodes_of(ast.Name):
            with self.subTest(where):
                self.assertFalse(node.id.startswith("_"))
                if isinstance(node.ctx, ast.Load):
                    self.assertTrue(node.id in OWN_NAMES or not hasattr(builtins, node.id))
                else:
                    self.assertFalse(hasattr(builtins, node.id))
        for where, node in nodes_of(ast.arg):
            self.assertFalse(node.arg.startswith("_") or hasattr(builtins, node.arg), where)


if __name__ == "__main__":
    unittest.main()
