"""The package keeps to its small part of Python (LANGUAGE.md), as far as a walk over its files can see."""

import ast
import builtins
import pathlib
import re
import unittest

PACKAGE = pathlib.Path(__file__).resolve().parent.parent / "bellsaway"
FILES = sorted(path for path in PACKAGE.rglob("*") if "__pycache__" not in path.parts and path.is_file())

STATEMENTS = (
    ast.Assign, ast.AugAssign, ast.If, ast.While, ast.For, ast.Return, ast.Break, ast.Continue, ast.Pass,
    ast.Raise, ast.Try, ast.Expr, ast.FunctionDef, ast.ClassDef, ast.ImportFrom,
)
EXPRESSIONS = (
    ast.Constant, ast.Name, ast.List, ast.Tuple, ast.Dict, ast.Set, ast.BinOp, ast.UnaryOp, ast.BoolOp,
    ast.Compare, ast.IfExp, ast.Call, ast.Attribute, ast.Subscript, ast.Slice, ast.ListComp, ast.JoinedStr,
    ast.FormattedValue, ast.Lambda,
)
OWN_NAMES = set(
    "len range enumerate zip min max sum abs sorted reversed int str bool list tuple dict set frozenset isinstance "
    "ord repr any all divmod Exception ValueError KeyError IndexError LookupError ZeroDivisionError "
    "ArithmeticError OverflowError RuntimeError NotImplementedError StopIteration True False None".split()
)
TWO_UNDERSCORES = {"__init__", "__eq__", "__repr__", "__str__", "__len__"}
WORDS = re.compile(
    r"\b(type|typing|typing_extensions|enum|Enum|IntEnum|StrEnum|Flag|IntFlag|Generic|Protocol|ABC|ABCMeta|"
    r"namedtuple|NamedTuple|TypedDict|TYPE_CHECKING|abstractmethod)\b|dataclass|overload|contextmanager"
)
NEVER = {"register", "mro", "elements", "open", "input", "version_info", "with_traceback", "add_note", "format"}
METHODS = set(
    "append clear copy count endswith extend find get index insert isalnum isalpha isdigit islower isspace isupper "
    "items join keys ljust lower lstrip partition pop remove replace reverse rfind rjust rpartition rsplit rstrip "
    "setdefault split splitlines startswith strip update upper values zfill bit_length".split()
)
PYTHONS_OWN = {name for thing in ("", 0, [], (), {}, set(), b"") for name in dir(thing)}


def bound_names(tree):
    for node in ast.walk(tree):
        if isinstance(node, (ast.FunctionDef, ast.ClassDef)):
            yield node.name
        elif isinstance(node, ast.arg):
            yield node.arg
        elif isinstance(node, ast.Name) and isinstance(node.ctx, ast.Store):
            yield node.id
        elif isinstance(node, ast.alias):
            yield node.asname or node.name
        elif isinstance(node, ast.ExceptHandler) and node.name:
            yield node.name


def each_file():
    read = [(path.name, path.read_text(encoding="utf-8")) for path in FILES]
    return [(name, text, ast.parse(text, name)) for name, text in read]


def drawn_from(tree):
    return [node.module for node in tree.body if isinstance(node, ast.ImportFrom)]


def own_methods():
    classes = [part for file, text, tree in each_file() for part in tree.body if isinstance(part, ast.ClassDef)]
    return [part.name for class_ in classes for part in class_.body if isinstance(part, ast.FunctionDef)]


def own_values():
    nodes = [node for file, text, tree in each_file() for node in ast.walk(tree)]
    return [node.attr for node in nodes if isinstance(node, ast.Attribute) and isinstance(node.ctx, ast.Store)]


class Language(unittest.TestCase):
    def test_files(self):
        self.assertTrue((PACKAGE / "__init__.py").is_file())
        for path in FILES:
            self.assertRegex(path.name, r"\A(__init__|__main__|[a-z][a-z0-9_]*)\.py\Z")

    def test_signs_sizes_and_words(self):
        for file, text, tree in each_file():
            self.assertRegex(text, r"\A[ -~\n]*\Z", file)
            rows = text.split("\n")
            self.assertLessEqual(len(rows), 400, file)
            self.assertLessEqual(max(len(row) for row in rows), 120, file)
            self.assertIsNone(WORDS.search(text), file)
            for node in ast.walk(tree):
                if isinstance(node, ast.FunctionDef):
                    self.assertLessEqual(node.end_lineno - node.lineno + 1, 40, (file, node.name))

    def test_statements_and_expressions(self):
        for file, text, tree in each_file():
            for node in ast.walk(tree):
                if isinstance(node, ast.stmt):
                    self.assertIsInstance(node, STATEMENTS, (file, node.lineno))
                elif isinstance(node, ast.expr):
                    self.assertIsInstance(node, EXPRESSIONS, (file, node.lineno))
                self.assertNotIsInstance(node, (ast.Div, ast.MatMult))
                if isinstance(node, ast.Assign):
                    self.assertEqual(len(node.targets), 1, (file, node.lineno))
                if isinstance(node, (ast.For, ast.While)):
                    self.assertEqual(node.orelse, [], (file, node.lineno))
                if isinstance(node, ast.Try):
                    self.assertEqual(node.finalbody, [], (file, node.lineno))
                if isinstance(node, ast.FormattedValue):
                    self.assertIsInstance(node.value, ast.Name, (file, node.lineno))
                if isinstance(node, ast.Constant):
                    self.assertIn(type(node.value), (int, str, bool, type(None)), (file, node.lineno))

    def test_texts_stand_by_themselves_only_at_a_modules_head(self):
        for file, text, tree in each_file():
            for node in ast.walk(tree):
                if isinstance(node, ast.Expr) and node is not tree.body[0]:
                    self.assertIsInstance(node.value, ast.Call, (file, node.lineno))

    def test_functions_and_classes_are_plain(self):
        for file, text, tree in each_file():
            for node in ast.walk(tree):
                if isinstance(node, (ast.FunctionDef, ast.ClassDef)):
                    self.assertEqual(node.decorator_list, [], (file, node.lineno))
                if isinstance(node, ast.arguments):
                    self.assertFalse(node.vararg or node.kwarg or node.kwonlyargs or node.posonlyargs)
                if isinstance(node, ast.ClassDef):
                    self.assertIn(node, tree.body)
                    self.assertLessEqual(len(node.bases), 1)
                    self.assertEqual(node.keywords, [])
                    for part in node.body:
                        self.assertIsInstance(part, (ast.FunctionDef, ast.Pass), (file, part.lineno))

    def test_imports(self):
        for file, text, tree in each_file():
            for node in ast.walk(tree):
                if isinstance(node, ast.ImportFrom):
                    self.assertIn(node, tree.body)
                    self.assertEqual(node.level, 0)
                    self.assertTrue(node.module.startswith("bellsaway."))
                    source = ast.parse((PACKAGE / (node.module.split(".")[1] + ".py")).read_text())
                    defined = [part.name for part in source.body if hasattr(part, "name")]
                    defined += [part.targets[0].id for part in source.body if isinstance(part, ast.Assign)]
                    for alias in node.names:
                        self.assertIn(alias.name, defined)

    def test_names(self):
        for file, text, tree in each_file():
            bound = list(bound_names(tree))
            for name in bound:
                if name not in TWO_UNDERSCORES:
                    self.assertRegex(name, r"\A[A-Za-z][A-Za-z0-9_]*\Z")
                    self.assertNotIn(name, dir(builtins), file)
            for node in ast.walk(tree):
                if isinstance(node, ast.Name):
                    self.assertTrue(node.id in bound or node.id in OWN_NAMES, (node.id, file, node.lineno))
                    self.assertNotIn(node.id, NEVER)
                if isinstance(node, ast.Attribute):
                    self.assertNotIn(node.attr, NEVER)
                    self.assertTrue(node.attr in TWO_UNDERSCORES or not node.attr.startswith("_"), (file, node.lineno))

    def test_methods_and_values(self):
        methods = set(own_methods())
        values = set(own_values())
        self.assertEqual(methods & values, set())
        self.assertEqual((methods - METHODS - TWO_UNDERSCORES - {"add", "discard"}) & PYTHONS_OWN, set())
        self.assertEqual(values & PYTHONS_OWN, set())
        for file, text, tree in each_file():
            called = [node.func for node in ast.walk(tree) if isinstance(node, ast.Call)]
            for node in ast.walk(tree):
                if isinstance(node, ast.Attribute):
                    self.assertIn(node.attr, METHODS | methods if node in called else values, (file, node.lineno))

    def test_no_two_files_draw_from_one_another(self):
        draws = {"bellsaway." + file[:-3]: drawn_from(tree) for file, text, tree in each_file()}
        ended = set()
        while set(draws) - ended:
            free = {file for file in draws if file not in ended and set(draws[file]) <= ended}
            self.assertTrue(free, sorted(set(draws) - ended))
            ended |= free

    def test_a_name_of_a_files_top_is_bound_once_and_no_local_bears_it(self):
        for file, text, tree in each_file():
            tops = [part.name for part in tree.body if isinstance(part, (ast.FunctionDef, ast.ClassDef))]
            tops += [part.targets[0].id for part in tree.body if isinstance(part, ast.Assign)]
            tops += [alias.name for part in tree.body if isinstance(part, ast.ImportFrom) for alias in part.names]
            self.assertEqual(len(tops), len(set(tops)), file)
            for part in tree.body:
                inner = list(bound_names(part)) if isinstance(part, (ast.FunctionDef, ast.ClassDef)) else []
                self.assertEqual(set(inner[1:]) & set(tops), set(), file)

    def test_is_stands_beside_none_and_truths_alone(self):
        for file, text, tree in each_file():
            for node in ast.walk(tree):
                if isinstance(node, ast.Compare):
                    for sign, right in zip(node.ops, node.comparators):
                        if isinstance(sign, (ast.Is, ast.IsNot)):
                            self.assertIsInstance(right, ast.Constant, (file, node.lineno))
                            self.assertIn(repr(right.value), ("None", "True", "False"), (file, node.lineno))


if __name__ == "__main__":
    unittest.main()
