"""The package keeps to the rules of ../shared/LANGUAGE.md, as far as a look at each file by itself shows it."""

import ast
import builtins
import os
import re
import unittest

FOLDER = os.path.join(os.path.dirname(os.path.dirname(os.path.abspath(__file__))), "middleweb")

OWN_NAMES = """len range enumerate zip min max sum abs sorted reversed int str bool list tuple dict set frozenset
    isinstance ord repr any all divmod Exception ValueError TypeError KeyError IndexError LookupError
    ZeroDivisionError ArithmeticError OverflowError RuntimeError NotImplementedError AttributeError
    StopIteration""".split()

METHODS = """append clear copy count endswith extend find get index insert isalnum isalpha isdigit islower isspace
    isupper items join keys ljust lower lstrip partition pop remove replace reverse rfind rjust rpartition rsplit
    rstrip setdefault split splitlines startswith strip update upper values zfill bit_length""".split()

DOUBLE_METHODS = ["__init__", "__eq__", "__repr__", "__str__", "__len__"]

WORDS = """type typing typing_extensions enum Enum IntEnum StrEnum Flag IntFlag Generic Protocol ABC ABCMeta
    namedtuple NamedTuple TypedDict TYPE_CHECKING abstractmethod""".split()
WORD_PARTS = ["dataclass", "overload", "contextmanager"]

NODES = """Module ImportFrom alias FunctionDef ClassDef arguments arg Return Assign AugAssign For While If Raise
    Try ExceptHandler Expr Pass Break Continue BoolOp BinOp UnaryOp Lambda IfExp Dict Set ListComp comprehension
    Compare Call JoinedStr FormattedValue Constant Attribute Subscript Name List Tuple Slice keyword Load Store
    And Or Add Sub Mult FloorDiv Mod Pow LShift RShift BitOr BitXor BitAnd Invert Not UAdd USub
    Eq NotEq Lt LtE Gt GtE Is IsNot In NotIn""".split()

TOP = (ast.ImportFrom, ast.FunctionDef, ast.ClassDef, ast.Assign)


def package_files():
    found = [name for name in sorted(os.listdir(FOLDER)) if name != "__pycache__"]
    return [(name, os.path.join(FOLDER, name)) for name in found]


def read(path):
    with open(path, encoding="utf-8", newline="") as file:
        return file.read()


def is_docstring(node):
    return isinstance(node, ast.Expr) and isinstance(node.value, ast.Constant) and isinstance(node.value.value, str)


def inner_names(tree):
    """Parameters, and names that are bound within functions."""
    found = []
    for outer in tree.body:
        if isinstance(outer, (ast.FunctionDef, ast.ClassDef)):
            nodes = list(ast.walk(outer))
            found += [node.arg for node in nodes if isinstance(node, ast.arg)]
            found += [node.id for node in nodes if isinstance(node, ast.Name) and isinstance(node.ctx, ast.Store)]
    return found


class Files(unittest.TestCase):
    def setUp(self):
        self.texts = [(name, read(path)) for name, path in package_files()]
        self.trees = [(name, ast.parse(text)) for name, text in self.texts]

    def nodes(self):
        return [(name, node) for name, tree in self.trees for node in ast.walk(tree)]

    def test_names_of_files(self):
        self.assertIn("__init__.py", [name for name, text in self.texts])
        for name, text in self.texts:
            self.assertRegex(name, r"^(__init__|__main__|[a-z][a-z0-9_]*)\.py$")
            self.assertNotIn(name[:-3], dir(builtins))

    def test_size_and_signs(self):
        for name, text in self.texts:
            self.assertRegex(text, r"\A[\n -~]*\Z", name)
            rows = text.split("\n")
            self.assertLessEqual(len(rows), 400, name)
            self.assertLessEqual(max(len(row) for row in rows), 120, name)

    def test_words(self):
        for name, text in self.texts:
            self.assertEqual([word for word in re.findall(r"\w+", text) if word in WORDS], [], name)
            self.assertEqual([part for part in WORD_PARTS if part in text], [], name)

    def test_nodes(self):
        for name, node in self.nodes():
            self.assertIn(type(node).__name__, NODES, (name, getattr(node, "lineno", None)))

    def test_the_top_of_a_file(self):
        for name, tree in self.trees:
            bound = []
            for k, node in enumerate(tree.body):
                self.assertTrue(isinstance(node, TOP) or (k == 0 and is_docstring(node)), (name, node.lineno))
                if isinstance(node, ast.Assign):
                    bound.append(node.targets[0].id)
                elif isinstance(node, ast.ImportFrom):
                    bound.extend(alias.asname or alias.name for alias in node.names)
                elif isinstance(node, (ast.FunctionDef, ast.ClassDef)):
                    bound.append(node.name)
            self.assertEqual(sorted(bound), sorted(set(bound)), name)
            self.assertEqual(sorted(set(bound) & set(inner_names(tree))), [], name)

    def test_imports(self):
        drawn = {}
        for name, tree in self.trees:
            found = [node for node in ast.walk(tree) if isinstance(node, ast.ImportFrom)]
            for node in found:
                self.assertEqual(node.level, 0, name)
                self.assertTrue(node.module.startswith("middleweb."), name)
                self.assertNotIn("*", [alias.name for alias in node.names])
            drawn[name] = {node.module.split(".")[1] + ".py" for node in found}
        self.assertEqual(drawn["__init__.py"], set())
        left = dict(drawn)
        while left:
            free = [name for name in left if not left[name] & set(left)]
            self.assertNotEqual(free, [], "files draw from one another")
            for name in free:
                del left[name]

    def test_functions(self):
        for name, node in self.nodes():
            if isinstance(node, ast.FunctionDef):
                self.assertLessEqual(node.end_lineno - node.lineno + 1, 40, (name, node.name))
                self.assertEqual(node.decorator_list, [])
            if isinstance(node, ast.arguments):
                self.assertEqual((node.vararg, node.kwarg, node.kwonlyargs, node.posonlyargs), (None, None, [], []))

    def test_classes(self):
        for name, node in self.nodes():
            if isinstance(node, ast.ClassDef):
                self.assertEqual((node.decorator_list, node.keywords), ([], []))
                self.assertLessEqual(len(node.bases), 1)
                for k, inner in enumerate(node.body):
                    fits = isinstance(inner, (ast.FunctionDef, ast.Pass)) or (k == 0 and is_docstring(inner))
                    self.assertTrue(fits, (name, inner.lineno))

    def test_names(self):
        for name, node in self.nodes():
            at = (name, getattr(node, "lineno", None))
            if isinstance(node, ast.Name):
                self.assertRegex(node.id, r"^[A-Za-z]", at)
                if node.id in dir(builtins):
                    self.assertIn(node.id, OWN_NAMES, at)
                    self.assertIsInstance(node.ctx, ast.Load, at)
            if isinstance(node, ast.arg):
                self.assertNotIn(node.arg, dir(builtins), at)
                self.assertRegex(node.arg, r"^[A-Za-z]", at)
            if isinstance(node, ast.FunctionDef) and node.name not in DOUBLE_METHODS:
                self.assertRegex(node.name, r"^[A-Za-z]", at)

    def test_methods(self):
        own = [node.name for name, node in self.nodes() if isinstance(node, ast.FunctionDef)]
        for name, node in self.nodes():
            if isinstance(node, ast.Call) and isinstance(node.func, ast.Attribute):
                self.assertIn(node.func.attr, METHODS + own + ["__init__"], (name, node.lineno))

    def test_expressions(self):
        for name, node in self.nodes():
            at = (name, getattr(node, "lineno", None))
            if isinstance(node, ast.Assign):
                self.assertEqual(len(node.targets), 1, at)
                self.assertNotIsInstance(node.targets[0], (ast.Tuple, ast.List), at)
            if isinstance(node, (ast.For, ast.While)):
                self.assertEqual(node.orelse, [], at)
            if isinstance(node, ast.Try):
                self.assertEqual(node.finalbody, [], at)
            if isinstance(node, ast.ListComp):
                self.assertEqual(len(node.generators), 1, at)
                self.assertLessEqual(len(node.generators[0].ifs), 1, at)
            if isinstance(node, ast.Constant):
                self.assertIn(type(node.value), (int, str, bool, type(None)), at)
                self.assertNotIn("%", node.value if isinstance(node.value, str) else "", at)
            if isinstance(node, ast.FormattedValue):
                self.assertIsInstance(node.value, ast.Name, at)
                self.assertIsNone(node.format_spec, at)
            if isinstance(node, ast.BinOp) and isinstance(node.op, ast.Pow):
                self.assertIsInstance(node.right, ast.Constant, at)
            if isinstance(node, ast.Compare):
                for k, sign in enumerate(node.ops):
                    if isinstance(sign, (ast.Is, ast.IsNot)):
                        self.assertIsInstance(node.comparators[k], ast.Constant, at)


if __name__ == "__main__":
    unittest.main()
