"""That the package's files keep to the rows of LANGUAGE.md that can be seen from their text."""

import ast
import builtins
import pathlib
import re
import unittest

PACKAGE = pathlib.Path(__file__).resolve().parent.parent / "mostwise"

OUTSIDE = (
    ast.With, ast.Delete, ast.Global, ast.Nonlocal, ast.Assert, ast.Yield, ast.YieldFrom, ast.Await, ast.Match,
    ast.AsyncFunctionDef, ast.AsyncFor, ast.AsyncWith, ast.SetComp, ast.DictComp, ast.GeneratorExp,
    ast.NamedExpr, ast.Starred, ast.Div, ast.MatMult, ast.AnnAssign, ast.Import,
)

OWN_NAMES = set("""
    len range enumerate zip min max sum abs sorted reversed int str bool list tuple dict set frozenset isinstance
    ord repr any all divmod Exception ValueError TypeError KeyError IndexError LookupError ZeroDivisionError
    ArithmeticError OverflowError RuntimeError NotImplementedError AttributeError StopIteration
""".split())

METHODS = {"__init__", "__eq__", "__repr__", "__str__", "__len__"}

WORDS = re.compile(
    r"\b(type|typing|typing_extensions|enum|Enum|IntEnum|StrEnum|Flag|IntFlag|Generic|Protocol|ABC|ABCMeta"
    r"|namedtuple|NamedTuple|TypedDict|TYPE_CHECKING|abstractmethod)\b|dataclass|overload|contextmanager")

PYTHONS_METHODS = set("""
    append clear copy count endswith extend find get index insert isalnum isalpha isdigit islower isspace isupper
    items join keys ljust lower lstrip partition pop remove replace reverse rfind rjust rpartition rsplit rstrip
    setdefault split splitlines startswith strip update upper values zfill bit_length
""".split())


def files():
    return sorted(path for path in PACKAGE.rglob("*") if path.is_file() and "__pycache__" not in path.parts)


def trees():
    return [(path.name, ast.parse(path.read_text(encoding="utf-8"))) for path in files()]


def nodes(*kinds):
    return [(name, node) for name, tree in trees() for node in ast.walk(tree) if isinstance(node, kinds)]


class LanguageTest(unittest.TestCase):
    def test_files(self):
        self.assertIn(PACKAGE / "__init__.py", files())
        for path in files():
            self.assertRegex(path.name, r"\A([a-z][a-z0-9_]*|__init__|__main__)\.py\Z")

    def test_signs_and_sizes(self):
        for path in files():
            text = path.read_text(encoding="utf-8")
            self.assertRegex(text, r"\A[ -~\n]*\Z", path.name)
            self.assertLessEqual(len(text.splitlines()), 400, path.name)
            self.assertLessEqual(max([0] + [len(line) for line in text.splitlines()]), 120, path.name)
            self.assertIsNone(WORDS.search(text), path.name)

    def test_functions(self):
        for name, node in nodes(ast.FunctionDef):
            where = (name, node.name)
            self.assertLessEqual(node.end_lineno - node.lineno + 1, 40, where)
            self.assertEqual(node.decorator_list, [], where)
            self.assertIsNone(node.args.vararg or node.args.kwarg, where)
            self.assertEqual(node.args.kwonlyargs + node.args.posonlyargs, [], where)

    def test_classes(self):
        for name, node in nodes(ast.ClassDef):
            where = (name, node.name)
            self.assertLessEqual(len(node.bases), 1, where)
            self.assertEqual(node.decorator_list + node.keywords, [], where)
            for part in node.body:
                self.assertIsInstance(part, (ast.FunctionDef, ast.Pass), where)

    def test_statements_and_expressions(self):
        for name, node in nodes(*OUTSIDE):
            self.fail((name, node.lineno, node))
        for name, node in nodes(ast.Assign):
            self.assertEqual(len(node.targets), 1, (name, node.lineno))
        for name, node in nodes(ast.For, ast.While):
            self.assertEqual(node.orelse, [], (name, node.lineno))
        for name, node in nodes(ast.ListComp):
            self.assertEqual(len(node.generators), 1, (name, node.lineno))
            self.assertLessEqual(len(node.generators[0].ifs), 1, (name, node.lineno))
        for name, node in nodes(ast.Constant):
            self.assertNotIsInstance(node.value, (float, bytes, complex), (name, node.lineno))

    def test_imports(self):
        for name, node in nodes(ast.ImportFrom):
            self.assertEqual(node.level, 0, name)
            self.assertRegex(node.module, r"\Amostwise\.[a-z0-9_]+\Z", name)
            self.assertNotIn("*", [alias.name for alias in node.names], name)

    def test_names(self):
        for name, node in nodes(ast.Name):
            if hasattr(builtins, node.id):
                self.assertIn(node.id, OWN_NAMES, (name, node.lineno))
                self.assertIsInstance(node.ctx, ast.Load, (name, node.lineno))
            self.assertFalse(node.id.startswith("_"), (name, node.lineno))
        for name, node in nodes(ast.arg):
            self.assertFalse(hasattr(builtins, node.arg) or node.arg.startswith("_"), (name, node.arg))
        for name, node in nodes(ast.FunctionDef):
            self.assertTrue(node.name in METHODS or not node.name.startswith("_"), (name, node.name))

    def test_methods_of_pythons_own_values(self):
        pythons = set(dir(str) + dir(list) + dir(dict) + dir(tuple) + dir(set) + dir(int) + dir(bytes))
        for name, node in nodes(ast.Attribute):
            if node.attr in pythons:
                self.assertIn(node.attr, PYTHONS_METHODS | {"__init__"}, (name, node.lineno))

    def test_no_name_is_a_method_here_and_a_value_there(self):
        methods, values = set(), set()
        for _, node in nodes(ast.ClassDef):
            methods.update(part.name for part in node.body if isinstance(part, ast.FunctionDef))
            values.update(part.attr for part in ast.walk(node)
                          if isinstance(part, ast.Attribute) and isinstance(part.ctx, ast.Store))
        self.assertEqual(methods & values, set())


if __name__ == "__main__":
    unittest.main()
