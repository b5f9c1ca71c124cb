"""The package keeps to its small part of Python: what can be seen of those rules row by row."""

import ast
import builtins
import re
import unittest
from pathlib import Path

PACKAGE = Path(__file__).resolve().parent.parent / "cotreehall"

NODES = """
Module FunctionDef ClassDef arguments arg Return Assign AugAssign For While If Raise Try ExceptHandler
Import ImportFrom alias Expr Pass Break Continue BoolOp BinOp UnaryOp Lambda IfExp Dict Set ListComp comprehension
Compare Call keyword FormattedValue JoinedStr Constant Attribute Subscript Name List Tuple Slice Load Store
And Or Add Sub Mult Mod Pow LShift RShift BitOr BitXor BitAnd FloorDiv Invert Not UAdd USub
Eq NotEq Lt LtE Gt GtE Is IsNot In NotIn
""".split()

OWN_NAMES = """
len range enumerate zip min max sum abs sorted reversed int str bool list tuple dict set frozenset isinstance
ord repr any all divmod Exception ValueError KeyError IndexError LookupError ZeroDivisionError
ArithmeticError OverflowError RuntimeError NotImplementedError StopIteration
""".split()

METHODS = """
append clear copy count endswith extend find get index insert isalnum isalpha isdigit islower isspace isupper
items join keys ljust lower lstrip partition pop remove replace reverse rfind rjust rpartition rsplit rstrip
setdefault split splitlines startswith strip update upper values zfill bit_length
""".split()

WORDS = """
type typing typing_extensions enum Enum IntEnum StrEnum Flag IntFlag Generic Protocol ABC ABCMeta namedtuple
NamedTuple TypedDict TYPE_CHECKING abstractmethod
""".split()

NOT_NAMES = """
register mro elements open input version_info with_traceback add_note attrgetter breakpoint builtins compile copyright
credits delattr dir eval exec exit gc getattr globals hasattr help id importlib license locals methodcaller os quit
setattr super type vars sys __name__ format format_map chr print TypeError AttributeError
""".split()

KEYWORDS = {"sorted": ["key", "reverse"], "min": ["key", "default"], "max": ["key", "default"], "sum": ["start"],
            "enumerate": ["start"], "zip": ["strict"]}

WALKED = ["zip", "enumerate", "reversed", "range", "items", "keys", "values"]
WALKERS = ["list", "tuple", "dict", "sorted", "sum", "any", "all", "enumerate", "zip", "min", "max", "join"]

OF_PYTHONS_VALUES = sorted({name for value in ["", 0, [], (), {}, set(), b""] for name in dir(value)})


def sources():
    return {path.stem: path.read_text() for path in sorted(PACKAGE.glob("*.py"))}


def trees():
    return {name: ast.parse(text) for name, text in sources().items()}


def nodes(kind):
    return [(name, node) for name, tree in trees().items() for node in ast.walk(tree) if isinstance(node, kind)]


def drawn_from(tree):
    return [node.module.split(".")[1] for node in ast.walk(tree) if isinstance(node, ast.ImportFrom)]


def parents(tree):
    return {child: node for node in ast.walk(tree) for child in ast.iter_child_nodes(node)}


def called(node):
    """The name by which a call is made, of a function or of a method."""
    if not isinstance(node, ast.Call):
        return None
    return node.func.id if isinstance(node.func, ast.Name) else node.func.attr


def is_plain(node):
    if isinstance(node, (ast.List, ast.Tuple)):
        return all(is_plain(thing) for thing in node.elts)
    if isinstance(node, ast.Dict):
        return all(is_plain(thing) for thing in node.keys + node.values)
    return isinstance(node, ast.Constant)


def bound_within(node):
    """The parameters and locals of a def."""
    names = [arg.arg for arg in ast.walk(node) if isinstance(arg, ast.arg)]
    stored = [name for name in ast.walk(node) if isinstance(name, ast.Name) and isinstance(name.ctx, ast.Store)]
    return names + [name.id for name in stored]


class LanguageTest(unittest.TestCase):
    def test_files(self):
        found = [path.name for path in PACKAGE.iterdir() if path.name != "__pycache__"]
        self.assertIn("__init__.py", found)
        for name in found:
            self.assertRegex(name, r"^(__init__|[a-z][a-z0-9_]*)\.py$")

    def test_signs_words_and_sizes(self):
        for name, text in sources().items():
            self.assertRegex(text, r"\A[ -~\n]*\Z", name)
            self.assertLessEqual(len(text.splitlines()), 400, name)
            self.assertLessEqual(max(len(line) for line in text.splitlines()), 120, name)
            self.assertEqual([word for word in re.findall(r"\w+", text) if word in WORDS], [], name)

    def test_functions_are_short_and_plain(self):
        for name, node in nodes(ast.FunctionDef):
            self.assertLessEqual(node.end_lineno - node.lineno + 1, 40, (name, node.name))
            self.assertEqual(node.decorator_list, [], (name, node.name))
            self.assertEqual((node.args.vararg, node.args.kwarg, node.args.kwonlyargs), (None, None, []), node.name)

    def test_statements_and_expressions(self):
        for name, node in nodes(ast.AST):
            self.assertIn(type(node).__name__, NODES, (name, getattr(node, "lineno", 0)))
        for name, node in nodes(ast.Assign):
            self.assertEqual(len(node.targets), 1, (name, node.lineno))
        for name, node in nodes((ast.For, ast.While)):
            self.assertEqual(node.orelse, [], (name, node.lineno))

    def test_names(self):
        for name, node in nodes(ast.Name):
            self.assertFalse(node.id.startswith("_"), (name, node.lineno))
            if hasattr(builtins, node.id):
                self.assertIn(node.id, OWN_NAMES, (name, node.lineno))
                self.assertIsInstance(node.ctx, ast.Load, (name, node.lineno))
        for name, node in nodes(ast.arg):
            self.assertFalse(hasattr(builtins, node.arg) or node.arg.startswith("_"), (name, node.lineno))

    def test_methods(self):
        own = [node.name for name, node in nodes(ast.FunctionDef)]
        for name, node in nodes(ast.Call):
            if isinstance(node.func, ast.Attribute):
                self.assertIn(node.func.attr, METHODS + own, (name, node.lineno))

    def test_imports(self):
        defined = {name: [getattr(node, "name", None) for node in tree.body] for name, tree in trees().items()}
        self.assertEqual(nodes(ast.Import), [])
        for name, node in nodes(ast.ImportFrom):
            self.assertEqual((node.level, node.module.split(".")[0]), (0, "cotreehall"), name)
            for told in node.names:
                self.assertIn(told.name, defined[node.module.split(".")[1]], name)

    def test_no_two_files_draw_from_one_another(self):
        left = {name: drawn_from(tree) for name, tree in trees().items()}
        while left:
            free = [name for name in left if not any(other in left for other in left[name])]
            self.assertNotEqual(free, [], sorted(left))
            left = {name: left[name] for name in left if name not in free}

    def test_the_top_of_a_file(self):
        for name, tree in trees().items():
            self.assertIsInstance(ast.get_docstring(tree), str, name)
            for node in tree.body[1:]:
                self.assertIsInstance(node, (ast.ImportFrom, ast.FunctionDef, ast.ClassDef, ast.Assign), name)
                self.assertTrue(not isinstance(node, ast.Assign) or is_plain(node.value), (name, node.lineno))
            bound = [node.name for node in tree.body if isinstance(node, (ast.FunctionDef, ast.ClassDef))]
            bound += [told.name for node in tree.body if isinstance(node, ast.ImportFrom) for told in node.names]
            bound += [node.targets[0].id for node in tree.body if isinstance(node, ast.Assign)]
            self.assertEqual(len(set(bound)), len(bound), name)
            within = [node for node in ast.walk(tree) if isinstance(node, (ast.ImportFrom, ast.ClassDef))]
            self.assertTrue(all(node in tree.body for node in within), name)

    def test_classes(self):
        parts = [part for name, node in nodes(ast.ClassDef) for part in node.body]
        methods = [part.name for part in parts if isinstance(part, ast.FunctionDef)]
        values = [node.attr for name, node in nodes(ast.Attribute) if isinstance(node.ctx, ast.Store)]
        for name, node in nodes(ast.ClassDef):
            self.assertLessEqual(len(node.bases), 1, node.name)
            for part in node.body:
                self.assertIsInstance(part, (ast.FunctionDef, ast.Pass), node.name)
            own = [part.name for part in node.body if isinstance(part, ast.FunctionDef)]
            self.assertEqual(len(set(own)), len(own), node.name)
        self.assertEqual(set(methods) & set(values), set())
        for method in methods + values:
            self.assertTrue(method == "__init__" or method not in OF_PYTHONS_VALUES, method)

    def test_where_classes_stand(self):
        classes = [node.name for name, node in nodes(ast.ClassDef)]
        for name, tree in trees().items():
            above = parents(tree)
            for node in ast.walk(tree):
                if isinstance(node, ast.Name) and node.id in classes:
                    holder = above[node]
                    made = isinstance(holder, ast.Call) and holder.func is node
                    self.assertTrue(made or isinstance(holder, (ast.ClassDef, ast.ExceptHandler, ast.Raise)), name)

    def test_locals_are_not_called_like_classes_imports_or_pythons_own(self):
        for name, tree in trees().items():
            taken = [told.name for node in tree.body if isinstance(node, ast.ImportFrom) for told in node.names]
            taken += [node.name for node in tree.body if isinstance(node, ast.ClassDef)]
            for node in ast.walk(tree):
                if isinstance(node, ast.FunctionDef):
                    for bound in bound_within(node):
                        self.assertFalse(bound in taken or hasattr(builtins, bound), (name, node.name, bound))

    def test_names_that_are_not_used(self):
        for name, node in nodes(ast.Name):
            self.assertNotIn(node.id, NOT_NAMES, (name, node.lineno))
        for name, node in nodes(ast.Attribute):
            self.assertNotIn(node.attr, NOT_NAMES, (name, node.lineno))

    def test_is_stands_beside_none_true_and_false(self):
        for name, node in nodes(ast.Compare):
            for sign, value in zip(node.ops, node.comparators):
                if isinstance(sign, (ast.Is, ast.IsNot)):
                    self.assertTrue(isinstance(value, ast.Constant) and value.value in (None, True, False), name)

    def test_no_annotations(self):
        for name, node in nodes(ast.FunctionDef):
            self.assertIsNone(node.returns, (name, node.name))
        for name, node in nodes(ast.arg):
            self.assertIsNone(node.annotation, (name, node.lineno))

    def test_keywords(self):
        for name, node in nodes(ast.Call):
            for keyword in node.keywords:
                self.assertIn(keyword.arg, KEYWORDS.get(called(node), []), (name, node.lineno))

    def test_what_is_walked_on_the_spot(self):
        for name, tree in trees().items():
            above = parents(tree)
            for node in ast.walk(tree):
                if called(node) in WALKED:
                    holder = above[node]
                    walked = isinstance(holder, (ast.For, ast.comprehension)) and holder.iter is node
                    self.assertTrue(walked or called(holder) in WALKERS, (name, node.lineno))

    def test_sets_are_not_kept(self):
        self.assertEqual([name for name, node in nodes(ast.Set)], [])
        for name, tree in trees().items():
            above = parents(tree)
            for node in ast.walk(tree):
                if called(node) == "set":
                    self.assertIn(called(above[node]), ["len", "sorted"], (name, node.lineno))

    def test_numbers_and_texts(self):
        for name, node in nodes(ast.BinOp):
            if isinstance(node.op, ast.Pow):
                self.assertIsInstance(node.right, ast.Constant, (name, node.lineno))
        for name, node in nodes(ast.Constant):
            self.assertIsInstance(node.value, (int, str, type(None)), (name, node.lineno))
            self.assertNotIn("%", str(node.value), (name, node.lineno))
        for name, node in nodes(ast.FormattedValue):
            self.assertIsInstance(node.value, ast.Name, (name, node.lineno))

    def test_comprehensions(self):
        for name, node in nodes(ast.ListComp):
            self.assertEqual(len(node.generators), 1, (name, node.lineno))
            self.assertLessEqual(len(node.generators[0].ifs), 1, (name, node.lineno))
