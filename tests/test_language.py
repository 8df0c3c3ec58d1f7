"""The package keeps to the small part of Python that it is written in, as far as its files show it."""

import ast
import builtins
import functools
import re
import unittest
from pathlib import Path

PACKAGE = Path(__file__).resolve().parent.parent / "likewise"
FILES = sorted(PACKAGE.rglob("*.py"))

NODES = set(
    "Module FunctionDef arguments arg ClassDef Return Assign AugAssign For While If Raise Try ExceptHandler "
    "ImportFrom alias Expr Pass Break Continue BoolOp And Or BinOp Add Sub Mult FloorDiv Mod Pow LShift RShift "
    "BitOr BitXor BitAnd UnaryOp Invert Not UAdd USub Lambda IfExp Dict Set ListComp comprehension Compare Eq "
    "NotEq Lt LtE Gt GtE Is IsNot In NotIn Call keyword Constant JoinedStr FormattedValue Attribute Subscript "
    "Slice Name List Tuple Load Store".split()
)

OWN_NAMES = set(
    "len range enumerate zip min max sum abs sorted reversed int str bool list tuple dict set isinstance ord repr "
    "any all divmod Exception ValueError TypeError KeyError IndexError LookupError ZeroDivisionError "
    "ArithmeticError OverflowError RuntimeError NotImplementedError StopIteration".split()
)

WORDS_NOWHERE = re.compile(
    r"\b(type|typing|typing_extensions|enum|Enum|IntEnum|StrEnum|Flag|IntFlag|Generic|Protocol|ABC|ABCMeta|"
    r"namedtuple|NamedTuple|TypedDict|TYPE_CHECKING|abstractmethod)\b|dataclass|overload|contextmanager"
)

METHODS = ("__init__", "__eq__", "__repr__", "__str__", "__len__")

METHODS_OF_PYTHON = set(
    "append clear copy count endswith extend find get index insert isalnum isalpha isdigit islower isspace isupper "
    "items join keys ljust lower lstrip partition pop remove replace reverse rfind rjust rpartition rsplit rstrip "
    "setdefault split splitlines startswith strip update upper values zfill bit_length".split()
)

VALUES_LIKE_PYTHONS = set("count index title find get join lower upper split strip copy add".split())

NAMES_NOWHERE = set("register mro elements open input version_info with_traceback add_note".split())

WALKED_AT_ONCE = ("zip", "enumerate", "reversed", "range", "items", "keys", "values")

WALKERS = ("list", "tuple", "dict", "sorted", "sum", "any", "all", "enumerate", "zip", "min", "max", "join")


def nodes_of(kind):
    """Every node of a kind in the package, with where it stands."""
    for file in FILES:
        for node in ast.walk(ast.parse(file.read_text())):
            if isinstance(node, kind):
                yield f"{file.name}:{getattr(node, 'lineno', 0)}", node


def with_parents(kind):
    """Every node of a kind in the package, with where it stands and the nodes around it, the nearest first."""
    for file in FILES:
        waiting = [(ast.parse(file.read_text()), ())]
        while waiting:
            node, around = waiting.pop()
            if isinstance(node, kind):
                yield f"{file.name}:{getattr(node, 'lineno', 0)}", node, around
            waiting.extend((child, (node,) + around) for child in ast.iter_child_nodes(node))


def called(node):
    """The name that a call is of."""
    if not isinstance(node, ast.Call):
        return None
    return node.func.attr if isinstance(node.func, ast.Attribute) else getattr(node.func, "id", None)


def top_names(tree):
    """The names that a file's top binds, each time."""
    names = []
    for node in tree.body:
        if isinstance(node, (ast.FunctionDef, ast.ClassDef)):
            names.append(node.name)
        elif isinstance(node, ast.Assign):
            names.append(node.targets[0].id)
    return names


def trees():
    """The files' trees by the names under which they are imported."""
    return {f"likewise.{file.stem}": ast.parse(file.read_text()) for file in FILES}


def drawn_from(tree):
    """The modules and names that a file imports."""
    return [(node.module, alias.name) for node in tree.body if isinstance(node, ast.ImportFrom) for alias in node.names]


@functools.cache
def own_methods():
    """The names of all methods of the package."""
    return {part.name for where, node in nodes_of(ast.ClassDef) for part in node.body if isinstance(part, ast.FunctionDef)}


class Files(unittest.TestCase):
    def test_nothing_but_plain_files(self):
        self.assertIn(PACKAGE / "__init__.py", FILES)
        for path in PACKAGE.rglob("*"):
            if "__pycache__" not in path.parts:
                self.assertRegex(path.name, r"^([a-z][a-z0-9_]*|__init__|__main__)\.py$")

    def test_sizes_and_signs(self):
        for file in FILES:
            lines = file.read_text().split("\n")
            self.assertLessEqual(len(lines), 401, file.name)
            for number, line in enumerate(lines, start=1):
                with self.subTest(f"{file.name}:{number}"):
                    self.assertLessEqual(len(line), 120)
                    self.assertRegex(line, r"^[ -~]*$")
                    self.assertNotRegex(line, WORDS_NOWHERE)


class Forms(unittest.TestCase):
    def test_allowed_forms_alone(self):
        for where, node in nodes_of(ast.AST):
            self.assertIn(type(node).__name__, NODES, where)

    def test_functions(self):
        for where, node in nodes_of(ast.FunctionDef):
            with self.subTest(where):
                self.assertLessEqual(node.end_lineno - node.lineno + 1, 40)
                self.assertEqual(node.decorator_list, [])
                self.assertIsNone(node.args.vararg or node.args.kwarg)
                self.assertEqual(node.args.kwonlyargs + node.args.posonlyargs, [])
                self.assertTrue(node.name in METHODS or node.name[0] != "_")

    def test_classes(self):
        for where, node in nodes_of(ast.ClassDef):
            with self.subTest(where):
                self.assertEqual(node.decorator_list + node.keywords, [])
                self.assertLessEqual(len(node.bases), 1)
                for part in node.body:
                    self.assertIsInstance(part, (ast.FunctionDef, ast.Expr, ast.Pass))

    def test_imports_are_the_packages_own(self):
        for where, node in nodes_of(ast.ImportFrom):
            with self.subTest(where):
                self.assertEqual(node.level, 0)
                self.assertRegex(node.module, r"^likewise\.[a-z0-9_]+$")
                self.assertNotIn("*", [alias.name for alias in node.names])

    def test_statements(self):
        for where, node in nodes_of((ast.For, ast.While)):
            self.assertEqual(node.orelse, [], where)
        for where, node in nodes_of(ast.Try):
            self.assertEqual(node.finalbody, [], where)
        for where, node in nodes_of(ast.Assign):
            self.assertEqual(len(node.targets), 1, where)

    def test_values(self):
        for where, node in nodes_of(ast.Constant):
            self.assertIn(type(node.value), (int, str, bool, type(None)), where)
        for where, node in nodes_of(ast.ListComp):
            self.assertEqual(len(node.generators), 1, where)
            self.assertLessEqual(len(node.generators[0].ifs), 1, where)
        for where, node in nodes_of(ast.Compare):
            if any(isinstance(sign, (ast.Is, ast.IsNot)) for sign in node.ops):
                self.assertIn(node.comparators[0].value, (None, True, False), where)

    def test_names(self):
        for where, node in nodes_of(ast.Name):
            with self.subTest(where):
                self.assertFalse(node.id.startswith("_"))
                if isinstance(node.ctx, ast.Load):
                    self.assertTrue(node.id in OWN_NAMES or not hasattr(builtins, node.id))
                else:
                    self.assertFalse(hasattr(builtins, node.id))
        for where, node in nodes_of(ast.arg):
            self.assertFalse(node.arg.startswith("_") or hasattr(builtins, node.arg), where)


class Names(unittest.TestCase):
    def test_no_name_is_a_method_and_a_value(self):
        for where, node in nodes_of(ast.Attribute):
            with self.subTest(where):
                self.assertNotIn(node.attr, NAMES_NOWHERE)
                if isinstance(node.ctx, ast.Store):
                    self.assertNotIn(node.attr, own_methods())
                    for own in ("", 0, [], {}, set(), b""):
                        self.assertTrue(node.attr in VALUES_LIKE_PYTHONS or not hasattr(own, node.attr))

    def test_methods_are_pythons_few_or_the_packages_own(self):
        for where, node in nodes_of(ast.Call):
            if isinstance(node.func, ast.Attribute):
                self.assertIn(node.func.attr, METHODS_OF_PYTHON | own_methods(), where)

    def test_methods_are_called_where_they_stand(self):
        for where, node, around in with_parents(ast.Attribute):
            if node.attr in own_methods() | METHODS_OF_PYTHON and isinstance(node.ctx, ast.Load):
                self.assertTrue(called(around[0]) == node.attr or isinstance(around[0], ast.keyword), where)

    def test_each_name_once_at_a_files_top(self):
        for name, tree in trees().items():
            names = top_names(tree) + [bound for module, bound in drawn_from(tree)]
            self.assertEqual(len(names), len(set(names)), name)

    def test_no_local_is_called_like_a_class_or_an_import(self):
        for name, tree in trees().items():
            classes = {node.name for node in tree.body if isinstance(node, ast.ClassDef)}
            taken = classes | {bound for module, bound in drawn_from(tree)}
            for node in ast.walk(tree):
                if isinstance(node, ast.arg):
                    self.assertNotIn(node.arg, taken, name)
                if isinstance(node, ast.Name) and isinstance(node.ctx, ast.Store):
                    self.assertNotIn(node.id, taken, name)

    def test_pythons_own_are_called_not_kept(self):
        for where, node, around in with_parents(ast.Name):
            if node.id in OWN_NAMES and not isinstance(around[0], (ast.ExceptHandler, ast.ClassDef, ast.keyword)):
                within = [called(one) for one in around[:2]]
                self.assertTrue(called(around[0]) == node.id or "isinstance" in within, where)


class Tops(unittest.TestCase):
    def test_plain_values(self):
        plain = (ast.Constant, ast.List, ast.Tuple, ast.Dict, ast.UnaryOp, ast.USub, ast.Load)
        for name, tree in trees().items():
            for node in tree.body:
                if isinstance(node, ast.Assign):
                    parts = list(ast.walk(node.value))
                    self.assertTrue(all(isinstance(part, plain) for part in parts), name)
                    inner = [part for part in parts[1:] if isinstance(part, (ast.List, ast.Dict))]
                    self.assertEqual(inner, [], name)
                else:
                    self.assertIsInstance(node, (ast.FunctionDef, ast.ClassDef, ast.ImportFrom, ast.Expr), name)

    def test_names_are_drawn_from_the_file_that_defines_them(self):
        found = trees()
        for name, tree in found.items():
            for module, bound in drawn_from(tree):
                self.assertIn(bound, top_names(found[module]), name)

    def test_no_two_files_draw_from_one_another(self):
        left = {name: {module for module, bound in drawn_from(tree)} for name, tree in trees().items()}
        while left:
            free = [name for name, modules in left.items() if not modules & set(left)]
            self.assertTrue(free, sorted(left))
            left = {name: modules for name, modules in left.items() if name not in free}


class Walks(unittest.TestCase):
    def test_walked_at_once(self):
        for where, node, around in with_parents(ast.Call):
            if called(node) in WALKED_AT_ONCE:
                behind_in = isinstance(around[0], (ast.For, ast.comprehension)) and around[0].iter is node
                handed = called(around[0]) in WALKERS and around[0].args[0] is node
                self.assertTrue(behind_in or handed, where)

    def test_sets_are_not_kept(self):
        for where, node, around in with_parents(ast.Call):
            if called(node) in ("set", "frozenset"):
                within = [one for one in around if not isinstance(one, ast.BinOp)][0]
                self.assertTrue(isinstance(within, ast.Compare) or called(within) in ("sorted", "len"), where)

    def test_no_sign_of_the_hundredth_in_texts(self):
        for where, node in nodes_of(ast.Constant):
            if isinstance(node.value, str):
                self.assertNotIn("%", node.value, where)


if __name__ == "__main__":
    unittest.main()
