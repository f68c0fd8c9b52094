"""That the package's files keep to the rows of LANGUAGE.md that can be seen from their text."""

import ast
import builtins
import pathlib
import re
import unittest

PACKAGE = pathlib.Path(__file__).resolve().parent.parent / "mostwise"

OUTSIDE = (
    ast.With, ast.Delete, ast.Global, ast.Nonlocal, ast.Assert, ast.Yield, ast.YieldFrom, ast.Await, ast.Match,
    ast.AsyncFunctionDef, ast.AsyncFor, ast.AsyncWith, ast.SetComp, ast.DictComp, ast.GeneratorExp,
    ast.NamedExpr, ast.Starred, ast.Div, ast.MatMult, ast.AnnAssign, ast.Import,
)

OWN_NAMES = set("""
    len range enumerate zip min max sum abs sorted reversed int str bool list tuple dict set frozenset isinstance
    ord repr any all divmod Exception ValueError TypeError KeyError IndexError LookupError ZeroDivisionError
    ArithmeticError OverflowError RuntimeError NotImplementedError AttributeError StopIteration
""".split())

METHODS = {"__init__", "__eq__", "__repr__", "__str__", "__len__"}

WORDS = re.compile(
    r"\b(type|typing|typing_extensions|enum|Enum|IntEnum|StrEnum|Flag|IntFlag|Generic|Protocol|ABC|ABCMeta"
    r"|namedtuple|NamedTuple|TypedDict|TYPE_CHECKING|abstractmethod)\b|dataclass|overload|contextmanager")

PYTHONS_METHODS = set("""
    append clear copy count endswith extend find get index insert isalnum isalpha isdigit islower isspace isupper
    items join keys ljust lower lstrip partition pop remove replace reverse rfind rjust rpartition rsplit rstrip
    setdefault split splitlines startswith strip update upper values zfill bit_length
""".split())


def files():
    return sorted(path for path in PACKAGE.rglob("*") if path.is_file() and "__pycache__" not in path.parts)


def trees():
    return [(path.name, ast.parse(path.read_text(encoding="utf-8"))) for path in files()]


def nodes(*kinds):
    return [(name, node) for name, tree in trees() for node in ast.walk(tree) if isinstance(node, kinds)]


class LanguageTest(unittest.TestCase):
    def test_files(self):
        self.assertIn(PACKAGE / "__init__.py", files())
        for path in files():
            self.assertRegex(path.name, r"\A([a-z][a-z0-9_]*|__init__|__main__)\.py\Z")

    def test_signs_and_sizes(self):
        for path in files():
            text = path.read_text(encoding="utf-8")
            self.assertRegex(text, r"\A[ -~\n]*\Z", path.name)
            self.assertLessEqual(len(text.splitlines()), 400, path.name)
            self.assertLessEqual(max([0] + [len(line) for line in text.splitlines()]), 120, path.name)
            self.assertIsNone(WORDS.search(text), path.name)

    def test_functions(self):
        for name, node in nodes(ast.FunctionDef):
            where = (name, node.name)
            self.assertLessEqual(node.end_lineno - node.lineno + 1, 40, where)
            self.assertEqual(node.decorator_list, [], where)
            self.assertIsNone(node.args.vararg or node.args.kwarg, where)
            self.assertEqual(node.args.kwonlyargs + node.args.posonlyargs, [], where)

    def test_classes(self):
        for name, node in nodes(ast.ClassDef):
            where = (name, node.name)
            self.assertLessEqual(len(node.bases), 1, where)
            self.assertEqual(node.decorator_list + node.keywords, [], where)
            for part in node.body:
                self.assertIsInstance(part, (ast.FunctionDef, ast.Pass), where)

    def test_statements_and_expressions(self):
        for name, node in nodes(*OUTSIDE):
            self.fail((name, node.lineno, node))
        for name, node in nodes(ast.Assign):
            self.assertEqual(len(node.targets), 1, (name, node.lineno))
        for name, node in nodes(ast.For, ast.While):
            self.assertEqual(node.orelse, [], (name, node.lineno))
        for name, node in nodes(ast.ListComp):
            self.assertEqual(len(node.generators), 1, (name, node.lineno))
            self.assertLessEqual(len(node.generators[0].ifs), 1, (name, node.lineno))
        for name, node in nodes(ast.Constant):
            self.assertNotIsInstance(node.value, (float, bytes, complex), (name, node.lineno))

    def test_imports(self):
        for name, node in nodes(ast.ImportFrom):
            self.assertEqual(node.level, 0, name)
            self.assertRegex(node.module, r"\Amostwise\.[a-z0-9_]+\Z", name)
            self.assertNotIn("*", [alias.name for alias in node.names], name)

    def test_names(self):
        for name, node in nodes(ast.Name):
            if hasattr(builtins, node.id):
                self.assertIn(node.id, OWN_NAMES, (name, node.lineno))
                self.assertIsInstance(node.ctx, ast.Load, (name, node.lineno))
            self.assertFalse(node.id.startswith("_"), (name, node.lineno))
        for name, node in nodes(ast.arg):
            self.assertFalse(hasattr(builtins, node.arg) or node.arg.startswith("_"), (name, node.arg))
        for name, node in nodes(ast.FunctionDef):
            self.assertTrue(node.name in METHODS or not node.name.startswith("_"), (name, node.name))

    def test_methods_of_pythons_own_values(self):
        pythons = set(dir(str) + dir(list) + dir(dict) + dir(tuple) + dir(set) + dir(int) + dir(bytes))
        for name, node in nodes(ast.Attribute):
            if node.attr in pythons:
                self.assertIn(node.attr, PYTHONS_METHODS | {"__init__"}, (name, node.lineno))

    def test_no_name_is_a_method_here_and_a_value_there(self):
        methods, values = set(), set()
        for _, node in nodes(ast.ClassDef):
            methods.update(part.name for part in node.body if isinstance(part, ast.FunctionDef))
            values.update(part.attr for part in ast.walk(node)
                          if isinstance(part, ast.Attribute) and isinstance(part.ctx, ast.Store))
        self.assertEqual(methods & values, set())


    def test_one_plain_target_in_an_assignment(self):
        for name, node in nodes(ast.Assign):
            self.assertNotIsInstance(node.targets[0], (ast.Tuple, ast.List), (name, node.lineno))

    def test_no_local_is_called_like_a_name_of_its_file(self):
        for name, tree in trees():
            top = {alias.asname or alias.name for node in tree.body if isinstance(node, ast.ImportFrom)
                   for alias in node.names}
            top |= {node.name for node in tree.body if isinstance(node, (ast.FunctionDef, ast.ClassDef))}
            tops = [node.targets[0].id for node in tree.body if isinstance(node, ast.Assign)]
            self.assertEqual(len(tops), len(set(tops)), name)
            top |= set(tops)
            for function in [node for node in ast.walk(tree) if isinstance(node, ast.FunctionDef)]:
                bound = {node.arg for node in ast.walk(function) if isinstance(node, ast.arg)}
                bound |= {node.id for node in ast.walk(function)
                          if isinstance(node, ast.Name) and isinstance(node.ctx, ast.Store)}
                self.assertEqual(bound & top, set(), (name, function.name))

    def test_the_top_of_a_file(self):
        for name, tree in trees():
            for node in tree.body[1:]:
                self.assertIsInstance(node, (ast.ImportFrom, ast.FunctionDef, ast.ClassDef, ast.Assign), name)
                if isinstance(node, ast.Assign):
                    ast.literal_eval(node.value)

    def test_imports_stand_first_are_used_and_never_go_round(self):
        drawn = {}
        for name, tree in trees():
            rows = [node for node in tree.body if isinstance(node, ast.ImportFrom)]
            self.assertEqual(tree.body[1:1 + len(rows)], rows, name)
            drawn[name[:-3]] = {node.module.partition(".")[2] for node in rows}
            used = {node.id for node in ast.walk(tree) if isinstance(node, ast.Name)}
            self.assertEqual({alias.name for node in rows for alias in node.names} - used, set(), name)
            for node in rows:
                defined = ast.parse((PACKAGE / (node.module.partition(".")[2] + ".py")).read_text(encoding="utf-8"))
                own = {part.name for part in defined.body if isinstance(part, (ast.FunctionDef, ast.ClassDef))}
                own |= {part.targets[0].id for part in defined.body if isinstance(part, ast.Assign)}
                self.assertEqual({alias.name for alias in node.names} - own, set(), name)
        while drawn:
            free = [name for name in drawn if not drawn[name] & set(drawn)]
            self.assertNotEqual(free, [], "files draw from one another")
            for name in free:
                drawn.pop(name)

    def test_comparisons_by_is(self):
        for name, node in nodes(ast.Compare):
            for operator, right in zip(node.ops, node.comparators):
                if isinstance(operator, (ast.Is, ast.IsNot)):
                    self.assertIsInstance(right, ast.Constant, (name, node.lineno))

    def test_what_is_walked_at_once(self):
        for name, tree in trees():
            fine = set()
            for node in ast.walk(tree):
                if isinstance(node, (ast.For, ast.comprehension)):
                    fine.add(node.iter)
                if isinstance(node, ast.Call) and isinstance(node.func, ast.Name) and node.args:
                    if node.func.id in ("list", "tuple", "dict", "sorted", "sum", "any", "all", "enumerate", "zip"):
                        fine.add(node.args[0])
            for node in ast.walk(tree):
                if isinstance(node, ast.Call):
                    called = node.func.id if isinstance(node.func, ast.Name) else getattr(node.func, "attr", "")
                    if called in ("zip", "enumerate", "reversed", "range", "items", "keys", "values"):
                        self.assertIn(node, fine, (name, node.lineno))

    def test_sets_stand_within_len_alone(self):
        for name, tree in trees():
            within = {node.args[0] for node in ast.walk(tree) if isinstance(node, ast.Call)
                      and isinstance(node.func, ast.Name) and node.func.id in ("len", "sorted")}
            for node in ast.walk(tree):
                self.assertNotIsInstance(node, ast.Set, name)
                if isinstance(node, ast.Call) and isinstance(node.func, ast.Name) and node.func.id in ("set", "frozenset"):
                    self.assertIn(node, within, (name, node.lineno))

    def test_keywords(self):
        for name, node in nodes(ast.Call):
            for keyword in node.keywords:
                self.assertIn((node.func.id, keyword.arg), [("sorted", "key"), ("min", "key"), ("max", "key")], name)

    def test_errors_are_raised_and_taken_by_the_programs_own_names(self):
        for name, node in nodes(ast.ExceptHandler):
            self.assertIsInstance(node.type, ast.Name, (name, node.lineno))
            self.assertNotIn(node.type.id, ("Exception", "TypeError", "ValueError", "LookupError", "IndexError"), name)
        for name, node in nodes(ast.Raise):
            self.assertIsInstance(node.exc, ast.Call, (name, node.lineno))
        for name, node in nodes(ast.Try):
            self.assertEqual(node.finalbody, [], (name, node.lineno))

    def test_texts(self):
        for name, node in nodes(ast.Constant):
            if isinstance(node.value, str):
                self.assertNotIn(chr(37), node.value, (name, node.lineno))
        for name, node in nodes(ast.JoinedStr):
            self.fail((name, node.lineno))

    def test_names_that_are_not_used(self):
        banned = {"register", "mro", "elements", "open", "input", "version_info", "with_traceback", "add_note", "format",
                  "format_map", "args"}
        for name, node in nodes(ast.Name, ast.Attribute, ast.FunctionDef, ast.arg):
            for field in ("id", "attr", "name", "arg"):
                self.assertNotIn(getattr(node, field, ""), banned, name)


if __name__ == "__main__":
    unittest.main()
