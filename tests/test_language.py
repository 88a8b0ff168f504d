"""Looks at the package's files by those rules of the language that can be seen in them."""

import ast
import builtins
import functools
import pathlib
import re
import unittest

PACKAGE = pathlib.Path(__file__).resolve().parent.parent / "likebook"

STATEMENTS = (
    ast.Module, ast.FunctionDef, ast.ClassDef, ast.ImportFrom, ast.Assign, ast.AugAssign, ast.If, ast.While, ast.For,
    ast.Return, ast.Break, ast.Continue, ast.Pass, ast.Raise, ast.Try, ast.ExceptHandler, ast.Expr, ast.Lambda,
)
EXPRESSIONS = (
    ast.Constant, ast.Name, ast.List, ast.Tuple, ast.Dict, ast.BinOp, ast.UnaryOp, ast.BoolOp, ast.Compare, ast.IfExp,
    ast.Call, ast.Attribute, ast.Subscript, ast.Slice, ast.ListComp, ast.comprehension, ast.JoinedStr,
    ast.FormattedValue, ast.arguments, ast.arg, ast.keyword, ast.alias, ast.expr_context, ast.operator, ast.unaryop,
    ast.boolop, ast.cmpop,
)
OWN_OF_PYTHON = set(
    "len range enumerate zip min max sum abs sorted reversed int str bool list tuple dict set frozenset isinstance ord "
    "repr any all divmod Exception ValueError TypeError KeyError IndexError LookupError ZeroDivisionError "
    "ArithmeticError OverflowError RuntimeError NotImplementedError AttributeError StopIteration".split()
)
METHODS = set(
    "append clear copy count endswith extend find get index insert isalnum isalpha isdigit islower isspace isupper "
    "items join keys ljust lower lstrip partition pop remove replace reverse rfind rjust rpartition rsplit rstrip "
    "setdefault split splitlines startswith strip update upper values zfill bit_length __init__".split()
)
NO_NAMES = set(
    "register mro elements open input version_info with_traceback add_note attrgetter breakpoint builtins compile "
    "copyright credits delattr dir eval exec exit gc getattr globals hasattr help id importlib license locals "
    "methodcaller os quit setattr super type vars sys __name__ format format_map f_back tb_next co_names".split()
)
FREE_VALUES = set("count index title find get join lower upper split strip copy add".split())
CHANGES = set("append clear extend insert pop remove reverse setdefault update".split())
KEYWORDS = {
    "sorted": {"key", "reverse"}, "min": {"key", "default"}, "max": {"key", "default"}, "sum": {"start"},
    "enumerate": {"start"}, "zip": {"strict"},
}
WALKED = set("zip enumerate reversed range items keys values".split())
WALKERS = set("list tuple dict sorted sum any all enumerate zip min max join".split())
NO_WORDS = re.compile(
    r"\b(type|typing|typing_extensions|enum|Enum|IntEnum|StrEnum|Flag|IntFlag|Generic|Protocol|ABC|ABCMeta|namedtuple"
    r"|NamedTuple|TypedDict|TYPE_CHECKING|abstractmethod)\b|dataclass|overload|contextmanager"
)


@functools.cache
def sources():
    return [(path.name, path.read_text(encoding="utf-8")) for path in sorted(PACKAGE.glob("*.py"))]


@functools.cache
def trees():
    return [(name, ast.parse(text)) for name, text in sources()]


@functools.cache
def own_methods():
    classes = [node for name, tree in trees() for node in tree.body if isinstance(node, ast.ClassDef)]
    return {one.name for node in classes for one in node.body if isinstance(one, ast.FunctionDef)}


def bound_names(tree):
    """Every name that a file gives, with its row."""
    for node in ast.walk(tree):
        if isinstance(node, (ast.FunctionDef, ast.ClassDef)):
            yield node.name, node.lineno
        elif isinstance(node, ast.arg):
            yield node.arg, node.lineno
        elif isinstance(node, ast.Name) and isinstance(node.ctx, ast.Store):
            yield node.id, node.lineno


def imports_of(tree):
    return {one.name: node.module for node in tree.body if isinstance(node, ast.ImportFrom) for one in node.names}


def told_at_the_top(tree):
    """The names that a file itself gives at its top, one by one."""
    told = []
    for node in tree.body:
        if isinstance(node, (ast.FunctionDef, ast.ClassDef)):
            told.append(node.name)
        elif isinstance(node, ast.Assign):
            told.append(node.targets[0].id)
    return told


def called(node):
    """The bare name or method that a call calls, or None."""
    if not isinstance(node, ast.Call):
        return None
    return node.func.id if isinstance(node.func, ast.Name) else getattr(node.func, "attr", None)


def stored_values(tree):
    return {
        node.attr for node in ast.walk(tree) if isinstance(node, ast.Attribute) and isinstance(node.ctx, ast.Store)}


class Language(unittest.TestCase):
    def test_files(self):
        self.assertIn("__init__.py", [path.name for path in PACKAGE.iterdir()])
        for path in PACKAGE.iterdir():
            if path.name != "__pycache__":
                self.assertRegex(path.name, r"^([a-z][a-z0-9_]*|__init__|__main__)\.py$")

    def test_signs_sizes_and_words(self):
        for name, text in sources():
            self.assertRegex(text, r"\A[\n -~]*\Z", name)
            rows = text.split("\n")
            self.assertLessEqual(len(rows) - 1, 400, name)
            self.assertLessEqual(max(len(row) for row in rows), 120, name)
            self.assertIsNone(NO_WORDS.search(text), name)

    def test_forms(self):
        for name, tree in trees():
            for node in ast.walk(tree):
                self.assertIsInstance(node, STATEMENTS + EXPRESSIONS, (name, node))
                self.assertNotIsInstance(node, (ast.Div, ast.MatMult), (name, node))
                self.look_at(name, node)

    def look_at(self, name, node):
        place = (name, getattr(node, "lineno", None))
        if isinstance(node, ast.FunctionDef):
            self.assertLessEqual(node.end_lineno - node.lineno + 1, 40, place)
            self.assertEqual(([], None, None, []), (
                node.decorator_list, node.args.vararg, node.args.kwarg, node.args.kwonlyargs), place)
        elif isinstance(node, ast.ClassDef):
            self.assertLessEqual(len(node.bases), 1, place)
            for part in node.body:
                self.assertIsInstance(part, (ast.FunctionDef, ast.Pass), place)
        elif isinstance(node, ast.Expr) and node.lineno > 1:
            self.assertIsInstance(node.value, ast.Call, place)
        elif isinstance(node, ast.Assign):
            self.assertEqual(1, len(node.targets), place)
            self.assertNotIsInstance(node.targets[0], (ast.Tuple, ast.List), place)
        elif isinstance(node, ast.Try):
            self.assertEqual([], node.finalbody, place)
        elif isinstance(node, (ast.For, ast.While)):
            self.assertEqual([], node.orelse, place)
        elif isinstance(node, ast.ListComp):
            self.assertEqual(1, len(node.generators), place)
            self.assertLessEqual(len(node.generators[0].ifs), 1, place)
        elif isinstance(node, ast.Constant):
            self.assertIsInstance(node.value, (int, str, type(None)), place)
        elif isinstance(node, ast.Compare) and any(isinstance(sign, (ast.Is, ast.IsNot)) for sign in node.ops):
            self.assertIsInstance(node.comparators[0], ast.Constant, place)

    def test_imports(self):
        files = {"likebook." + name[:-3] for name, text in sources()}
        for name, tree in trees():
            for node in ast.walk(tree):
                if isinstance(node, ast.ImportFrom):
                    self.assertIn(node, tree.body, name)
                    self.assertEqual(0, node.level, name)
                    self.assertIn(node.module, files, name)
                    self.assertEqual([None] * len(node.names), [one.asname for one in node.names], name)

    def test_no_two_files_draw_from_one_another(self):
        drawn = {
            "likebook." + name[:-3]: {node.module for node in tree.body if isinstance(node, ast.ImportFrom)}
            for name, tree in trees()
        }
        while drawn:
            free = [name for name in drawn if not drawn[name] & set(drawn)]
            self.assertNotEqual([], free, drawn)
            drawn = {name: drawn[name] for name in drawn if name not in free}

    def test_names(self):
        for name, tree in trees():
            for bound, row in bound_names(tree):
                if bound != "__init__":
                    self.assertRegex(bound, r"^[A-Za-z][A-Za-z0-9_]*$", (name, row))
                    self.assertNotIn(bound, set(dir(builtins)) - own_methods(), (name, row))

    def test_pythons_own_names_and_methods(self):
        for name, tree in trees():
            for node in ast.walk(tree):
                if isinstance(node, ast.Name) and node.id in dir(builtins):
                    self.assertIn(node.id, OWN_OF_PYTHON, (name, node.lineno))
                if isinstance(node, ast.Call) and isinstance(node.func, ast.Attribute):
                    self.assertIn(node.func.attr, METHODS | own_methods(), (name, node.lineno))

    def test_the_top_of_a_file(self):
        for name, tree in trees():
            self.assertIsInstance(ast.get_docstring(tree), str, name)
            for node in tree.body[1:]:
                self.assertIsInstance(node, (ast.ImportFrom, ast.FunctionDef, ast.ClassDef, ast.Assign), name)
                if isinstance(node, ast.Assign):
                    for one in ast.walk(node.value):
                        self.assertIsInstance(
                            one, (ast.Constant, ast.Name, ast.List, ast.Tuple, ast.Dict, ast.expr_context), (name, node.lineno))
                    inner = [one for one in ast.walk(node.value) if isinstance(one, (ast.List, ast.Dict))]
                    self.assertIn(inner, ([], [node.value]), (name, node.lineno))
            told = told_at_the_top(tree) + list(imports_of(tree))
            self.assertEqual(len(told), len(set(told)), name)

    def test_names_are_drawn_from_the_file_that_tells_them(self):
        told = {"likebook." + name[:-3]: told_at_the_top(tree) for name, tree in trees()}
        for name, tree in trees():
            for drawn, file in imports_of(tree).items():
                self.assertIn(drawn, told[file], name)
                used = [node for node in ast.walk(tree) if isinstance(node, ast.Name) and node.id == drawn]
                self.assertNotEqual([], used, (name, drawn))

    def test_no_local_is_called_like_what_stands_at_the_top(self):
        for name, tree in trees():
            top = set(told_at_the_top(tree)) | set(imports_of(tree))
            for node in tree.body:
                if isinstance(node, (ast.FunctionDef, ast.ClassDef)):
                    for bound, row in bound_names(node):
                        whole = bound == node.name and row == node.lineno
                        method = isinstance(node, ast.ClassDef) and bound in own_methods()
                        self.assertTrue(whole or method or bound not in top, (name, row, bound))

    def test_names_that_are_not_used(self):
        for name, tree in trees():
            for node in ast.walk(tree):
                for field in ("id", "attr", "arg", "name"):
                    self.assertNotIn(getattr(node, field, None), NO_NAMES, (name, getattr(node, "lineno", None)))

    def test_values_of_objects(self):
        python = set().union(*[dir(one) for one in (str, int, list, dict, set, bytes, tuple, ValueError)])
        for name, tree in trees():
            for value in stored_values(tree):
                self.assertNotIn(value, python - FREE_VALUES, name)
                self.assertNotIn(value, own_methods(), name)

    def test_errors(self):
        for name, tree in trees():
            for node in ast.walk(tree):
                if isinstance(node, ast.Raise):
                    self.assertIsInstance(node.exc, ast.Call, (name, node.lineno))
                if isinstance(node, ast.ExceptHandler):
                    self.assertIsInstance(node.type, ast.Name, (name, node.lineno))
                    self.assertIn(node.type.id, set(imports_of(tree)) | {"KeyError"}, (name, node.lineno))

    def test_keywords(self):
        for name, tree in trees():
            for node in ast.walk(tree):
                if called(node) is not None and node.keywords:
                    told = {one.arg for one in node.keywords}
                    self.assertLessEqual(told, KEYWORDS.get(called(node), set()), (name, node.lineno))

    def test_walked_at_once(self):
        for name, tree in trees():
            walked = set()
            for node in ast.walk(tree):
                if isinstance(node, (ast.For, ast.comprehension)):
                    walked.add(node.iter)
                elif called(node) in WALKERS:
                    walked.update(node.args)
            for node in ast.walk(tree):
                if called(node) in WALKED:
                    self.assertIn(node, walked, (name, node.lineno))

    def test_what_a_loop_walks_is_not_changed_in_it(self):
        for name, tree in trees():
            for loop in ast.walk(tree):
                if isinstance(loop, ast.For):
                    walked = {ast.unparse(one) for one in ast.walk(loop.iter)}
                    for node in [one for part in loop.body for one in ast.walk(part)]:
                        if called(node) in CHANGES:
                            self.assertNotIn(ast.unparse(node.func.value), walked, (name, node.lineno))
                        elif isinstance(node, ast.Subscript) and isinstance(node.ctx, ast.Store):
                            self.assertNotIn(ast.unparse(node.value), walked, (name, node.lineno))

    def test_sets_powers_and_texts(self):
        for name, tree in trees():
            for node in ast.walk(tree):
                place = (name, getattr(node, "lineno", None))
                self.assertNotIn(called(node), ("set", "frozenset", "chr"), place)
                if isinstance(node, ast.BinOp) and isinstance(node.op, ast.Pow):
                    self.assertIn(getattr(node.right, "value", None), range(65), place)
                elif isinstance(node, ast.Constant) and isinstance(node.value, str):
                    self.assertNotIn("%", node.value, place)
                elif isinstance(node, ast.FormattedValue):
                    self.assertIsInstance(node.value, ast.Name, place)
                    self.assertIsNone(node.format_spec, place)
        for name, text in sources():
            self.assertIsNone(re.search(r"\\[^nt\\'\"]", text), name)


if __name__ == "__main__":
    unittest.main()
