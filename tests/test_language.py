"""Holds the package's own files against those rules of its small part of Python that can be seen in the code."""

import ast
import builtins
import re
import unittest
from pathlib import Path

PACKAGE = Path(__file__).resolve().parent.parent / "wellroads"

OWN_NAMES = set(
    "len range enumerate zip min max sum abs sorted reversed int str bool list tuple dict set frozenset isinstance "
    "ord repr any all divmod Exception ValueError TypeError KeyError IndexError LookupError ZeroDivisionError "
    "ArithmeticError OverflowError RuntimeError NotImplementedError AttributeError StopIteration".split()
)
METHODS = set(
    "append clear copy count endswith extend find get index insert isalnum isalpha isdigit islower isspace isupper "
    "items join keys ljust lower lstrip partition pop remove replace reverse rfind rjust rpartition rsplit rstrip "
    "setdefault split splitlines startswith strip update upper values zfill bit_length".split()
)
DOUBLE = {"__init__", "__eq__", "__repr__", "__str__", "__len__"}
NO_WORDS = re.compile(
    r"\b(type|typing|typing_extensions|enum|Enum|IntEnum|StrEnum|Flag|IntFlag|Generic|Protocol|ABC|ABCMeta"
    r"|namedtuple|NamedTuple|TypedDict|TYPE_CHECKING|abstractmethod)\b|dataclass|overload|contextmanager"
)
NO_NAMES = set("register mro elements open input version_info with_traceback add_note format format_map".split())
NODES = (
    ast.Module, ast.FunctionDef, ast.ClassDef, ast.arguments, ast.arg, ast.ImportFrom, ast.alias,
    ast.Assign, ast.AugAssign, ast.If, ast.While, ast.For, ast.Return, ast.Break, ast.Continue, ast.Pass, ast.Raise,
    ast.Try, ast.ExceptHandler, ast.Expr, ast.Constant, ast.Name, ast.Attribute, ast.Subscript, ast.Slice, ast.Call,
    ast.keyword, ast.List, ast.Tuple, ast.Dict, ast.BinOp, ast.UnaryOp, ast.BoolOp, ast.Compare, ast.IfExp,
    ast.ListComp, ast.comprehension, ast.Lambda, ast.JoinedStr, ast.FormattedValue,
    ast.expr_context, ast.boolop, ast.operator, ast.unaryop, ast.cmpop,
)


def package_files():
    return sorted(path for path in PACKAGE.iterdir() if path.name != "__pycache__")


def nodes_of(path, *kinds):
    return [node for node in ast.walk(ast.parse(path.read_text())) if isinstance(node, kinds)]


def top_names(path):
    names = []
    for node in ast.parse(path.read_text()).body:
        if isinstance(node, (ast.FunctionDef, ast.ClassDef)):
            names.append(node.name)
        elif isinstance(node, ast.Assign):
            names.append(node.targets[0].id)
        elif isinstance(node, ast.ImportFrom):
            names.extend(alias.name for alias in node.names)
    return names


def bound_names(path):
    names = [node.arg for node in nodes_of(path, ast.arg)]
    names.extend(node.id for node in nodes_of(path, ast.Name) if isinstance(node.ctx, ast.Store))
    return names


def drawn_from(path):
    return [node.module.split(".")[1] + ".py" for node in nodes_of(path, ast.ImportFrom)]


class Language(unittest.TestCase):
    def test_files(self):
        names = [path.name for path in package_files()]
        self.assertIn("__init__.py", names)
        for name in names:
            self.assertRegex(name, r"^([a-z][a-z0-9_]*|__init__)\.py$")
            self.assertNotIn(name[:-3], dir(builtins))

    def test_signs_words_and_size(self):
        for path in package_files():
            text = path.read_bytes().decode("ascii")
            self.assertRegex(text, r"\A[\n -~]*\Z", path)
            self.assertIsNone(NO_WORDS.search(text), path)
            self.assertLessEqual(len(text.splitlines()), 400, path)
            self.assertLessEqual(max(len(row) for row in text.splitlines()), 120, path)
            for node in nodes_of(path, ast.FunctionDef):
                self.assertLessEqual(node.end_lineno - node.lineno + 1, 40, node.name)

    def test_statements_and_expressions(self):
        for path in package_files():
            for node in nodes_of(path, ast.AST):
                where = (path.name, getattr(node, "lineno", 0), node)
                self.assertIsInstance(node, NODES, where)
                self.assertNotIsInstance(node, (ast.Div, ast.MatMult), where)
                if isinstance(node, ast.Constant):
                    self.assertIsInstance(node.value, (int, str, type(None)), where)
                    self.assertNotIn("%", str(node.value), where)
                if isinstance(node, ast.Assign):
                    self.assertEqual(len(node.targets), 1, where)
                if isinstance(node, (ast.For, ast.While)):
                    self.assertEqual(node.orelse, [], where)
                if isinstance(node, ast.Try):
                    self.assertEqual(node.finalbody, [], where)
                if isinstance(node, ast.ListComp):
                    self.assertEqual(len(node.generators), 1, where)
                    self.assertLessEqual(len(node.generators[0].ifs), 1, where)
                if isinstance(node, ast.BinOp) and isinstance(node.op, ast.Pow):
                    self.assertIsInstance(node.right, ast.Constant, where)
                if isinstance(node, ast.Compare) and isinstance(node.ops[0], (ast.Is, ast.IsNot)):
                    self.assertIsInstance(node.comparators[0], ast.Constant, where)

    def test_functions_and_classes(self):
        for path in package_files():
            for node in nodes_of(path, ast.FunctionDef):
                told = node.args
                self.assertEqual((told.vararg, told.kwarg, told.kwonlyargs, told.posonlyargs), (None, None, [], []))
                self.assertEqual(node.decorator_list, [], node.name)
                self.assertIsNone(node.returns, node.name)
            for node in nodes_of(path, ast.ClassDef):
                self.assertLessEqual(len(node.bases) + len(node.keywords) + len(node.decorator_list), 1, node.name)
                for part in node.body:
                    self.assertIsInstance(part, (ast.FunctionDef, ast.Pass), node.name)

    def test_imports(self):
        drawn = {path.name: drawn_from(path) for path in package_files()}
        for path in package_files():
            for node in nodes_of(path, ast.ImportFrom):
                self.assertRegex(node.module, r"^wellroads\.[a-z_]+$")
                for alias in node.names:
                    source = PACKAGE / (node.module.split(".")[1] + ".py")
                    self.assertIn(alias.name, top_names(source))
                    self.assertNotIn(alias.name, [name for kin in nodes_of(source, ast.ImportFrom)
                                                  for name in [other.name for other in kin.names]])
        while drawn:
            ready = [name for name in drawn if not any(other in drawn for other in drawn[name])]
            self.assertTrue(ready, "files draw from one another")
            for name in ready:
                drawn.pop(name)

    def test_names(self):
        for path in package_files():
            tops = top_names(path)
            self.assertEqual(len(set(tops)), len(tops), path)
            bound = bound_names(path)
            for name in bound + tops:
                self.assertRegex(name, r"^[A-Za-z][A-Za-z0-9_]*$", path)
                self.assertNotIn(name, dir(builtins), path)
                self.assertNotIn(name, NO_NAMES, path)
            outer = [node.name for node in nodes_of(path, ast.ClassDef)]
            for node in nodes_of(path, ast.ImportFrom):
                outer.extend(alias.name for alias in node.names)
            self.assertEqual([name for name in bound if name in outer], [], path)
            known = OWN_NAMES | set(bound) | set(tops)
            for node in nodes_of(path, ast.Name):
                self.assertIn(node.id, known, path)

    def test_methods_and_values(self):
        methods, stored = set(), set()
        for path in package_files():
            for node in nodes_of(path, ast.ClassDef):
                methods.update(part.name for part in node.body if isinstance(part, ast.FunctionDef))
            stored.update(node.attr for node in nodes_of(path, ast.Attribute) if isinstance(node.ctx, ast.Store))
        self.assertEqual(methods & stored, set())
        for name in (methods | stored) - DOUBLE:
            self.assertRegex(name, r"^[A-Za-z][A-Za-z0-9_]*$")
            self.assertNotIn(name, NO_NAMES)
        for path in package_files():
            for node in nodes_of(path, ast.Attribute):
                self.assertIn(node.attr, METHODS | methods | stored | DOUBLE, (path, node.lineno))


if __name__ == "__main__":
    unittest.main()
