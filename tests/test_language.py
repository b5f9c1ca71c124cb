"""The package keeps to its small part of Python: what can be seen of those rules row by row."""

import ast
import builtins
import re
import unittest
from pathlib import Path

PACKAGE = Path(__file__).resolve().parent.parent / "cotreehall"

NODES = """
Module FunctionDef ClassDef arguments arg Return Assign AugAssign For While If Raise Try ExceptHandler
Import ImportFrom alias Expr Pass Break Continue BoolOp BinOp UnaryOp Lambda IfExp Dict Set ListComp comprehension
Compare Call keyword FormattedValue JoinedStr Constant Attribute Subscript Name List Tuple Slice Load Store
And Or Add Sub Mult Mod Pow LShift RShift BitOr BitXor BitAnd FloorDiv Invert Not UAdd USub
Eq NotEq Lt LtE Gt GtE Is IsNot In NotIn
""".split()

OWN_NAMES = """
len range enumerate zip min max sum abs sorted reversed int str bool list tuple dict set frozenset isinstance
ord repr any all divmod Exception ValueError KeyError IndexError LookupError ZeroDivisionError
ArithmeticError OverflowError RuntimeError NotImplementedError StopIteration
""".split()

METHODS = """
append clear copy count endswith extend find get index insert isalnum isalpha isdigit islower isspace isupper
items join keys ljust lower lstrip partition pop remove replace reverse rfind rjust rpartition rsplit rstrip
setdefault split splitlines startswith strip update upper values zfill bit_length
""".split()

WORDS = """
type typing typing_extensions enum Enum IntEnum StrEnum Flag IntFlag Generic Protocol ABC ABCMeta namedtuple
NamedTuple TypedDict TYPE_CHECKING abstractmethod
""".split()


def sources():
    return {path.stem: path.read_text() for path in sorted(PACKAGE.glob("*.py"))}


def trees():
    return {name: ast.parse(text) for name, text in sources().items()}


def nodes(kind):
    return [(name, node) for name, tree in trees().items() for node in ast.walk(tree) if isinstance(node, kind)]


def drawn_from(tree):
    return [node.module.split(".")[1] for node in ast.walk(tree) if isinstance(node, ast.ImportFrom)]


class LanguageTest(unittest.TestCase):
    def test_files(self):
        found = [path.name for path in PACKAGE.iterdir() if path.name != "__pycache__"]
        self.assertIn("__init__.py", found)
        for name in found:
            self.assertRegex(name, r"^(__init__|[a-z][a-z0-9_]*)\.py$")

    def test_signs_words_and_sizes(self):
        for name, text in sources().items():
            self.assertRegex(text, r"\A[ -~\n]*\Z", name)
            self.assertLessEqual(len(text.splitlines()), 400, name)
            self.assertLessEqual(max(len(line) for line in text.splitlines()), 120, name)
            self.assertEqual([word for word in re.findall(r"\w+", text) if word in WORDS], [], name)

    def test_functions_are_short_and_plain(self):
        for name, node in nodes(ast.FunctionDef):
            self.assertLessEqual(node.end_lineno - node.lineno + 1, 40, (name, node.name))
            self.assertEqual(node.decorator_list, [], (name, node.name))
            self.assertEqual((node.args.vararg, node.args.kwarg, node.args.kwonlyargs), (None, None, []), node.name)

    def test_statements_and_expressions(self):
        for name, node in nodes(ast.AST):
            self.assertIn(type(node).__name__, NODES, (name, getattr(node, "lineno", 0)))
        for name, node in nodes(ast.Assign):
            self.assertEqual(len(node.targets), 1, (name, node.lineno))
        for name, node in nodes((ast.For, ast.While)):
            self.assertEqual(node.orelse, [], (name, node.lineno))

    def test_names(self):
        for name, node in nodes(ast.Name):
            self.assertFalse(node.id.startswith("_"), (name, node.lineno))
            if hasattr(builtins, node.id):
                self.assertIn(node.id, OWN_NAMES, (name, node.lineno))
                self.assertIsInstance(node.ctx, ast.Load, (name, node.lineno))
        for name, node in nodes(ast.arg):
            self.assertFalse(hasattr(builtins, node.arg) or node.arg.startswith("_"), (name, node.lineno))

    def test_methods(self):
        own = [node.name for name, node in nodes(ast.FunctionDef)]
        for name, node in nodes(ast.Call):
            if isinstance(node.func, ast.Attribute):
                self.assertIn(node.func.attr, METHODS + own, (name, node.lineno))

    def test_imports(self):
        defined = {name: [getattr(node, "name", None) for node in tree.body] for name, tree in trees().items()}
        self.assertEqual(nodes(ast.Import), [])
        for name, node in nodes(ast.ImportFrom):
            self.assertEqual((node.level, node.module.split(".")[0]), (0, "cotreehall"), name)
            for told in node.names:
                self.assertIn(told.name, defined[node.module.split(".")[1]], name)

    def test_no_two_files_draw_from_one_another(self):
        left = {name: drawn_from(tree) for name, tree in trees().items()}
        while left:
            free = [name for name in left if not any(other in left for other in left[name])]
            self.assertNotEqual(free, [], sorted(left))
            left = {name: left[name] for name in left if name not in free}
