"""The package keeps to the small part of Python that it is written in."""

import ast
import re
import unittest
from pathlib import Path

PACKAGE = Path(__file__).resolve().parent.parent / "pageboxes"
FILES = sorted(PACKAGE.rglob("*.py"))

NODES = set("""
Module ImportFrom alias FunctionDef Lambda ClassDef arguments arg Assign AugAssign If While For Return Break Continue Pass
Raise Try ExceptHandler Expr Call keyword Constant List Tuple Dict Set Name Attribute Subscript Slice BinOp UnaryOp BoolOp
Compare IfExp ListComp comprehension JoinedStr FormattedValue Load Store Add Sub Mult FloorDiv Mod Pow LShift RShift BitOr
BitXor BitAnd Invert Not USub And Or Eq NotEq Lt LtE Gt GtE Is IsNot In NotIn
""".split())
BUILT_IN = set("""
len range enumerate zip min max sum abs sorted reversed int str bool list tuple dict set frozenset isinstance ord repr any
all divmod Exception ValueError TypeError KeyError IndexError LookupError ZeroDivisionError ArithmeticError OverflowError
RuntimeError NotImplementedError AttributeError StopIteration
""".split())
METHODS = set("""
append clear copy count endswith extend find get index insert isalnum isalpha isdigit islower isspace isupper items join
keys ljust lower lstrip partition pop remove replace reverse rfind rjust rpartition rsplit rstrip setdefault split splitlines
startswith strip update upper values zfill bit_length
""".split())
PYTHONS_OWN = {name for kind in (str, int, list, tuple, dict, set, frozenset, bytes) for name in dir(kind)}
WORDS_OUT = re.compile(r"""\b(type|typing|typing_extensions|enum|Enum|IntEnum|StrEnum|Flag|IntFlag|Generic|Protocol|ABC|ABCMeta
|namedtuple|NamedTuple|TypedDict|TYPE_CHECKING|abstractmethod)\b|dataclass|overload|contextmanager""", re.VERBOSE)


def trees():
    return [(path, ast.parse(path.read_text(encoding="ascii"))) for path in FILES]


def walk(kind):
    return [(path, node) for path, tree in trees() for node in ast.walk(tree) if isinstance(node, kind)]


def bound_names(tree):
    names = [node.id for node in ast.walk(tree) if isinstance(node, ast.Name) and isinstance(node.ctx, ast.Store)]
    names += [node.arg for node in ast.walk(tree) if isinstance(node, ast.arg)]
    names += [node.name for node in ast.walk(tree) if isinstance(node, (ast.FunctionDef, ast.ClassDef)) and node.name]
    return names + [alias.name for node in ast.walk(tree) if isinstance(node, ast.ImportFrom) for alias in node.names]


class TestLanguage(unittest.TestCase):
    def test_files(self):
        self.assertIn(PACKAGE / "pages.py", FILES)
        self.assertTrue((PACKAGE / "__init__.py").exists())
        for path in PACKAGE.iterdir():
            self.assertTrue(path.suffix == ".py" or path.name == "__pycache__", path)

    def test_signs_and_sizes(self):
        for path in FILES:
            text = path.read_text(encoding="utf-8")
            self.assertRegex(text, r"\A[ -~\n]*\Z", path)
            self.assertLessEqual(text.count("\n"), 400, path)
            self.assertLessEqual(max(len(line) for line in text.split("\n")), 120, path)
            self.assertIsNone(WORDS_OUT.search(text), path)
        for path, node in walk(ast.FunctionDef):
            self.assertLessEqual(node.end_lineno - node.lineno + 1, 40, (path, node.name))

    def test_statements_and_expressions(self):
        for path, node in walk(ast.AST):
            self.assertIn(node.__class__.__name__, NODES, (path, getattr(node, "lineno", 0)))
        for path, node in walk((ast.For, ast.While)):
            self.assertEqual(node.orelse, [], (path, node.lineno))
        for path, node in walk(ast.Assign):
            self.assertEqual(len(node.targets), 1, (path, node.lineno))
        for path, node in walk(ast.Constant):
            self.assertIn(node.value.__class__, (int, str, bool, None.__class__), (path, node.lineno))
            self.assertNotIn("%", str(node.value), (path, node.lineno))

    def test_imports(self):
        drawn = {}
        for path, node in walk(ast.ImportFrom):
            self.assertRegex(node.module, r"\Apageboxes\.[a-z]+\Z", path)
            self.assertEqual(node.level, 0, path)
            drawn.setdefault(path.stem, set()).add(node.module.split(".")[1])
        while drawn:
            free = [stem for stem in drawn if not drawn[stem] & set(drawn)]
            self.assertNotEqual(free, [], drawn)
            drawn = {stem: drawn[stem] for stem in drawn if stem not in free}

    def test_names(self):
        for path, tree in trees():
            bound = bound_names(tree)
            for name in bound:
                self.assertRegex(name, r"\A([A-Za-z][A-Za-z0-9_]*|__init__)\Z", path)
            builtins = dir(__builtins__) if not isinstance(__builtins__, dict) else list(__builtins__)
            self.assertEqual(set(bound) & set(builtins), set(), path)
            read = {node.id for node in ast.walk(tree) if isinstance(node, ast.Name) and isinstance(node.ctx, ast.Load)}
            self.assertEqual(read - set(bound) - BUILT_IN, set(), path)

    def test_methods_and_values_of_objects(self):
        methods = {part.name for path, node in walk(ast.ClassDef) for part in node.body if isinstance(part, ast.FunctionDef)}
        values = {node.attr for path, node in walk(ast.Attribute) if isinstance(node.ctx, ast.Store)}
        called = {node.func.attr for path, node in walk(ast.Call) if isinstance(node.func, ast.Attribute)}
        self.assertEqual(methods & values, set())
        self.assertEqual((methods - {"__init__"} | values) & PYTHONS_OWN, set())
        self.assertEqual(called - methods - METHODS, set())

    def test_no_docstring_but_at_the_top(self):
        for path, node in walk(ast.Expr):
            if not isinstance(node.value, ast.Call):
                self.assertEqual(node.lineno, 1, path)


if __name__ == "__main__":
    unittest.main()
