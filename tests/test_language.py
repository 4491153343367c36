"""The package keeps to the small part of Python it is written in; so it has no clock, chance or files (point 1)."""

import ast
import builtins
import re
import unittest
from pathlib import Path

PACKAGE = Path(__file__).resolve().parent.parent / "pickhouse"

NAMES = set(
    "len range enumerate zip min max sum abs sorted reversed int str bool list tuple dict set frozenset isinstance "
    "ord repr any all divmod Exception ValueError TypeError KeyError IndexError LookupError ZeroDivisionError "
    "ArithmeticError OverflowError RuntimeError NotImplementedError AttributeError StopIteration".split()
)
METHODS = set(
    "append clear copy count endswith extend find get index insert isalnum isalpha isdigit islower isspace isupper "
    "items join keys ljust lower lstrip partition pop remove replace reverse rfind rjust rpartition rsplit rstrip "
    "setdefault split splitlines startswith strip update upper values zfill bit_length".split()
)
WORDS = re.compile(
    r"\b(type|typing|typing_extensions|enum|Enum|IntEnum|StrEnum|Flag|IntFlag|Generic|Protocol|ABC|ABCMeta|namedtuple"
    r"|NamedTuple|TypedDict|TYPE_CHECKING|abstractmethod)\b|dataclass|overload|contextmanager"
)
OUT = (
    ast.With, ast.Match, ast.Delete, ast.Global, ast.Nonlocal, ast.Assert, ast.Yield, ast.YieldFrom, ast.Await,
    ast.AsyncFunctionDef, ast.AsyncFor, ast.AsyncWith, ast.NamedExpr, ast.Starred, ast.SetComp, ast.DictComp,
    ast.GeneratorExp, ast.AnnAssign, ast.Div, ast.Import, ast.Set,
)
IN_PLACE = ("range", "zip", "enumerate", "reversed", "items", "keys", "values")
WALKERS = ("list", "tuple", "dict", "sorted", "sum", "any", "all", "enumerate", "zip", "min", "max", "join")


def sources():
    return sorted(PACKAGE.glob("*.py"))


def trees():
    return [ast.parse(path.read_text(), path.name) for path in sources()]


def called_name(node):
    if not isinstance(node, ast.Call):
        return None
    return node.func.id if isinstance(node.func, ast.Name) else getattr(node.func, "attr", None)


def bound_names(tree):
    for node in ast.walk(tree):
        if isinstance(node, (ast.FunctionDef, ast.ClassDef)):
            yield node.name
        elif isinstance(node, ast.arg):
            yield node.arg
        elif isinstance(node, ast.Name) and isinstance(node.ctx, ast.Store):
            yield node.id
        elif isinstance(node, ast.Attribute) and isinstance(node.ctx, ast.Store):
            yield node.attr


def top_names(tree):
    for node in tree.body:
        if isinstance(node, (ast.FunctionDef, ast.ClassDef)):
            yield node.name
        elif isinstance(node, ast.Assign):
            yield node.targets[0].id


def imports(tree):
    return [node for node in ast.walk(tree) if isinstance(node, ast.ImportFrom)]


class TheLanguage(unittest.TestCase):
    def test_the_folder_holds_plain_files_alone(self):
        for path in PACKAGE.iterdir():
            if path.name != "__pycache__":
                self.assertRegex(path.name, r"^(__init__|__main__|[a-z][a-z0-9_]*)\.py$")

    def test_signs_lines_and_words(self):
        for path in sources():
            text = path.read_text()
            self.assertRegex(text, r"\A[ -~\n]*\Z", path)
            self.assertLessEqual(len(text.splitlines()), 400, path)
            self.assertLessEqual(max(map(len, text.splitlines())), 120, path)
            self.assertIsNone(WORDS.search(text), path)

    def test_functions(self):
        for tree in trees():
            for node in ast.walk(tree):
                if isinstance(node, ast.FunctionDef):
                    self.assertLessEqual(node.end_lineno - node.lineno + 1, 40, node.name)
                    self.assertEqual(node.decorator_list, [])
                    self.assertIsNone(node.returns)
                    self.assertFalse(node.args.vararg or node.args.kwarg or node.args.kwonlyargs)

    def test_nothing_that_is_ruled_out(self):
        for tree in trees():
            for node in ast.walk(tree):
                self.assertNotIsInstance(node, OUT, getattr(node, "lineno", None))
                if isinstance(node, ast.Compare) and isinstance(node.ops[0], (ast.Is, ast.IsNot)):
                    self.assertIn(ast.unparse(node.comparators[0]), ("None", "True", "False"), node.lineno)
                if isinstance(node, ast.BinOp) and isinstance(node.op, ast.Pow):
                    self.assertIsInstance(node.right, ast.Constant, node.lineno)
                if isinstance(node, (ast.For, ast.While)):
                    self.assertEqual(node.orelse, [], node.lineno)
                if isinstance(node, ast.ListComp):
                    self.assertEqual(len(node.generators), 1, node.lineno)
                    self.assertLessEqual(len(node.generators[0].ifs), 1, node.lineno)
                if isinstance(node, ast.FormattedValue):
                    self.assertIsInstance(node.value, ast.Name, node.lineno)
                    self.assertIn(node.conversion, (-1, ord("r")), node.lineno)
                    self.assertIsNone(node.format_spec, node.lineno)
                if isinstance(node, ast.Constant):
                    self.assertIn(type(node.value), (int, str, bool, type(None)), node.lineno)
                    self.assertFalse(isinstance(node.value, str) and "%" in node.value, node.lineno)

    def test_names(self):
        for tree in trees():
            own = set(bound_names(tree)) | {alias.name for node in imports(tree) for alias in node.names}
            for name in own:
                self.assertRegex(name, r"^([A-Za-z][A-Za-z0-9_]*|__(init|eq|repr|str|len)__)$")
                self.assertFalse(hasattr(builtins, name), name)
            for node in ast.walk(tree):
                if isinstance(node, ast.Name):
                    self.assertIn(node.id, own | NAMES, node.lineno)
                if isinstance(node, ast.Attribute):
                    self.assertIn(node.attr, METHODS | own, node.lineno)

    def test_each_top_name_once_and_no_import_shadowed(self):
        for tree in trees():
            tops = list(top_names(tree))
            self.assertEqual(len(tops), len(set(tops)))
            self.assertFalse(set(bound_names(tree)) & {alias.name for node in imports(tree) for alias in node.names})

    def test_imports_are_from_the_file_that_defines_the_name(self):
        for tree in trees():
            for node in imports(tree):
                self.assertRegex(node.module, r"^pickhouse\.[a-z]+$")
                drawn = ast.parse((PACKAGE / (node.module.split(".")[1] + ".py")).read_text())
                for alias in node.names:
                    self.assertIn(alias.name, list(top_names(drawn)))
                    self.assertIsNone(alias.asname)

    def test_no_files_draw_from_one_another(self):
        draws = {}
        for path in sources():
            draws[path.stem] = {node.module.split(".")[1] for node in imports(ast.parse(path.read_text()))}
        while draws:
            free = [name for name in draws if not draws[name] & set(draws)]
            self.assertTrue(free, draws)
            draws = {name: draws[name] for name in draws if name not in free}

    def test_ranges_and_sets_are_used_on_the_spot(self):
        for tree in trees():
            allowed = set()
            for node in ast.walk(tree):
                if isinstance(node, (ast.For, ast.comprehension)):
                    allowed.add((id(node.iter), "walk"))
                if called_name(node) in WALKERS and node.args:
                    allowed.add((id(node.args[0]), "walk"))
                if called_name(node) in ("sorted", "len") and not node.keywords:
                    allowed.add((id(node.args[0]), "set"))
                if isinstance(node, ast.Compare):
                    allowed.update((id(side), "set") for side in [node.left] + node.comparators)
            for node in ast.walk(tree):
                if called_name(node) in IN_PLACE:
                    self.assertIn((id(node), "walk"), allowed, node.lineno)
                if called_name(node) in ("set", "frozenset"):
                    self.assertIn((id(node), "set"), allowed, node.lineno)
