"""Looks at the package's files by those rules of the language that can be seen row by row."""

import ast
import builtins
import pathlib
import re
import unittest

PACKAGE = pathlib.Path(__file__).resolve().parent.parent / "likebook"

STATEMENTS = (
    ast.Module, ast.FunctionDef, ast.ClassDef, ast.ImportFrom, ast.Assign, ast.AugAssign, ast.If, ast.While, ast.For,
    ast.Return, ast.Break, ast.Continue, ast.Pass, ast.Raise, ast.Try, ast.ExceptHandler, ast.Expr, ast.Lambda,
)
EXPRESSIONS = (
    ast.Constant, ast.Name, ast.List, ast.Tuple, ast.Dict, ast.BinOp, ast.UnaryOp, ast.BoolOp, ast.Compare, ast.IfExp,
    ast.Call, ast.Attribute, ast.Subscript, ast.Slice, ast.ListComp, ast.comprehension, ast.JoinedStr,
    ast.FormattedValue, ast.arguments, ast.arg, ast.keyword, ast.alias, ast.expr_context, ast.operator, ast.unaryop,
    ast.boolop, ast.cmpop,
)
OWN_OF_PYTHON = set(
    "len range enumerate zip min max sum abs sorted reversed int str bool list tuple dict set frozenset isinstance ord "
    "repr any all divmod Exception ValueError TypeError KeyError IndexError LookupError ZeroDivisionError "
    "ArithmeticError OverflowError RuntimeError NotImplementedError AttributeError StopIteration".split()
)
METHODS = set(
    "append clear copy count endswith extend find get index insert isalnum isalpha isdigit islower isspace isupper "
    "items join keys ljust lower lstrip partition pop remove replace reverse rfind rjust rpartition rsplit rstrip "
    "setdefault split splitlines startswith strip update upper values zfill bit_length __init__".split()
)
NO_WORDS = re.compile(
    r"\b(type|typing|typing_extensions|enum|Enum|IntEnum|StrEnum|Flag|IntFlag|Generic|Protocol|ABC|ABCMeta|namedtuple"
    r"|NamedTuple|TypedDict|TYPE_CHECKING|abstractmethod)\b|dataclass|overload|contextmanager"
)


def sources():
    return [(path.name, path.read_text(encoding="utf-8")) for path in sorted(PACKAGE.glob("*.py"))]


def trees():
    return [(name, ast.parse(text)) for name, text in sources()]


def own_methods():
    classes = [node for name, tree in trees() for node in tree.body if isinstance(node, ast.ClassDef)]
    return {one.name for node in classes for one in node.body if isinstance(one, ast.FunctionDef)}


def bound_names(tree):
    """Every name that a file gives, with its row."""
    for node in ast.walk(tree):
        if isinstance(node, (ast.FunctionDef, ast.ClassDef)):
            yield node.name, node.lineno
        elif isinstance(node, ast.arg):
            yield node.arg, node.lineno
        elif isinstance(node, ast.Name) and isinstance(node.ctx, ast.Store):
            yield node.id, node.lineno


class Language(unittest.TestCase):
    def test_files(self):
        self.assertIn("__init__.py", [path.name for path in PACKAGE.iterdir()])
        for path in PACKAGE.iterdir():
            if path.name != "__pycache__":
                self.assertRegex(path.name, r"^([a-z][a-z0-9_]*|__init__|__main__)\.py$")

    def test_signs_sizes_and_words(self):
        for name, text in sources():
            self.assertRegex(text, r"\A[\n -~]*\Z", name)
            rows = text.split("\n")
            self.assertLessEqual(len(rows) - 1, 400, name)
            self.assertLessEqual(max(len(row) for row in rows), 120, name)
            self.assertIsNone(NO_WORDS.search(text), name)

    def test_forms(self):
        for name, tree in trees():
            for node in ast.walk(tree):
                self.assertIsInstance(node, STATEMENTS + EXPRESSIONS, (name, node))
                self.assertNotIsInstance(node, (ast.Div, ast.MatMult), (name, node))
                self.look_at(name, node)

    def look_at(self, name, node):
        place = (name, getattr(node, "lineno", None))
        if isinstance(node, ast.FunctionDef):
            self.assertLessEqual(node.end_lineno - node.lineno + 1, 40, place)
            self.assertEqual(([], None, None, []), (
                node.decorator_list, node.args.vararg, node.args.kwarg, node.args.kwonlyargs), place)
        elif isinstance(node, ast.ClassDef):
            self.assertLessEqual(len(node.bases), 1, place)
            for part in node.body:
                self.assertIsInstance(part, (ast.FunctionDef, ast.Pass), place)
        elif isinstance(node, ast.Assign):
            self.assertEqual(1, len(node.targets), place)
            self.assertNotIsInstance(node.targets[0], (ast.Tuple, ast.List), place)
        elif isinstance(node, ast.Try):
            self.assertEqual([], node.finalbody, place)
        elif isinstance(node, (ast.For, ast.While)):
            self.assertEqual([], node.orelse, place)
        elif isinstance(node, ast.ListComp):
            self.assertEqual(1, len(node.generators), place)
            self.assertLessEqual(len(node.generators[0].ifs), 1, place)
        elif isinstance(node, ast.Constant):
            self.assertIsInstance(node.value, (int, str, type(None)), place)
        elif isinstance(node, ast.Compare) and any(isinstance(sign, (ast.Is, ast.IsNot)) for sign in node.ops):
            self.assertIsInstance(node.comparators[0], ast.Constant, place)

    def test_imports(self):
        files = {"likebook." + name[:-3] for name, text in sources()}
        for name, tree in trees():
            for node in ast.walk(tree):
                if isinstance(node, ast.ImportFrom):
                    self.assertIn(node, tree.body, name)
                    self.assertEqual(0, node.level, name)
                    self.assertIn(node.module, files, name)
                    self.assertEqual([None] * len(node.names), [one.asname for one in node.names], name)

    def test_no_two_files_draw_from_one_another(self):
        drawn = {
            "likebook." + name[:-3]: {node.module for node in tree.body if isinstance(node, ast.ImportFrom)}
            for name, tree in trees()
        }
        while drawn:
            free = [name for name in drawn if not drawn[name] & set(drawn)]
            self.assertNotEqual([], free, drawn)
            drawn = {name: drawn[name] for name in drawn if name not in free}

    def test_names(self):
        for name, tree in trees():
            for bound, row in bound_names(tree):
                if bound != "__init__":
                    self.assertRegex(bound, r"^[A-Za-z][A-Za-z0-9_]*$", (name, row))
                    self.assertNotIn(bound, set(dir(builtins)) - own_methods(), (name, row))

    def test_pythons_own_names_and_methods(self):
        for name, tree in trees():
            for node in ast.walk(tree):
                if isinstance(node, ast.Name) and node.id in dir(builtins):
                    self.assertIn(node.id, OWN_OF_PYTHON, (name, node.lineno))
                if isinstance(node, ast.Call) and isinstance(node.func, ast.Attribute):
                    self.assertIn(node.func.attr, METHODS | own_methods(), (name, node.lineno))


if __name__ == "__main__":
    unittest.main()
