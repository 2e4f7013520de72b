"""The package keeps to the small part of Python that it is written in: the rules a syntax tree shows."""

import ast
import pathlib
import re
import unittest

PACKAGE = pathlib.Path(__file__).resolve().parent.parent / "turnframe"

WORDS_OUT = (
    "type", "typing", "typing_extensions", "enum", "Enum", "IntEnum", "StrEnum", "Flag", "IntFlag", "Generic",
    "Protocol", "ABC", "ABCMeta", "namedtuple", "NamedTuple", "TypedDict", "TYPE_CHECKING", "abstractmethod",
)
NAMES_OF_PYTHON = """
    len range enumerate zip min max sum abs sorted reversed int str bool list tuple dict set frozenset isinstance ord
    repr any all divmod Exception ValueError TypeError KeyError IndexError LookupError ZeroDivisionError
    ArithmeticError OverflowError RuntimeError NotImplementedError AttributeError StopIteration
""".split()
METHODS_OF_PYTHON = """
    append clear copy count endswith extend find get index insert isalnum isalpha isdigit islower isspace isupper
    items join keys ljust lower lstrip partition pop remove replace reverse rfind rjust rpartition rsplit rstrip
    setdefault split splitlines startswith strip update upper values zfill bit_length
""".split()
SPECIAL_METHODS = ("__init__", "__eq__", "__repr__", "__str__", "__len__")
NODES_OUT = (
    ast.AnnAssign, ast.Assert, ast.AsyncFor, ast.AsyncFunctionDef, ast.AsyncWith, ast.Await, ast.Delete, ast.DictComp,
    ast.Div, ast.GeneratorExp, ast.Global, ast.Import, ast.MatMult, ast.Match, ast.NamedExpr, ast.Nonlocal,
    ast.SetComp, ast.Starred, ast.With, ast.Yield, ast.YieldFrom,
)


def files():
    return sorted(PACKAGE.rglob("*.py"))


def nodes(path):
    return list(ast.walk(ast.parse(path.read_text(encoding="utf-8"))))


def bound_in(tree_nodes):
    """Every name that a file binds: by import, def, class, parameter, assignment, loop or handler."""
    found = set()
    for node in tree_nodes:
        if isinstance(node, (ast.FunctionDef, ast.ClassDef)):
            found.add(node.name)
        elif isinstance(node, ast.alias):
            found.add(node.asname or node.name)
        elif isinstance(node, ast.arg):
            found.add(node.arg)
        elif isinstance(node, ast.Name) and not isinstance(node.ctx, ast.Load):
            found.add(node.id)
        elif isinstance(node, ast.ExceptHandler) and node.name:
            found.add(node.name)
    return found


def methods_of_the_package():
    found = set(SPECIAL_METHODS)
    for path in files():
        for node in nodes(path):
            if isinstance(node, ast.ClassDef):
                found |= {each.name for each in node.body if isinstance(each, ast.FunctionDef)}
    return found


class Language(unittest.TestCase):

    def test_files(self):
        self.assertTrue((PACKAGE / "__init__.py").is_file())
        for path in PACKAGE.rglob("*"):
            if path.is_file() and path.parent.name != "__pycache__":
                self.assertRegex(path.name, r"^(__init__|__main__|[a-z][a-z0-9_]*)\.py$")

    def test_signs_and_sizes(self):
        for path in files():
            text = path.read_text(encoding="utf-8")
            self.assertRegex(text, r"\A[ -~\n]*\Z", path.name)
            rows = text.split("\n")
            self.assertLessEqual(len(rows), 400, path.name)
            self.assertLessEqual(max([len(row) for row in rows]), 120, path.name)
            for node in nodes(path):
                if isinstance(node, ast.FunctionDef):
                    self.assertLessEqual(node.end_lineno - node.lineno + 1, 40, (path.name, node.name))

    def test_words(self):
        for path in files():
            text = path.read_text(encoding="utf-8")
            self.assertEqual([word for word in WORDS_OUT if re.search(rf"\b{word}\b", text)], [], path.name)
            self.assertIsNone(re.search("dataclass|overload|contextmanager", text), path.name)

    def test_imports(self):
        for path in files():
            for node in nodes(path):
                if isinstance(node, ast.ImportFrom):
                    self.assertEqual(node.level, 0, path.name)
                    self.assertTrue(node.module.startswith("turnframe."), (path.name, node.module))
                    self.assertNotIn("*", [each.name for each in node.names], path.name)

    def test_forms(self):
        for path in files():
            for node in nodes(path):
                where = (path.name, getattr(node, "lineno", None))
                self.assertNotIsInstance(node, NODES_OUT, where)
                if isinstance(node, ast.Constant):
                    self.assertNotIsInstance(node.value, (float, complex, bytes), where)
                if isinstance(node, (ast.For, ast.While)):
                    self.assertEqual(node.orelse, [], where)
                if isinstance(node, ast.Assign):
                    self.assertEqual(len(node.targets), 1, where)
                if isinstance(node, ast.ListComp):
                    self.assertEqual(len(node.generators), 1, where)
                    self.assertLessEqual(len(node.generators[0].ifs), 1, where)
                if isinstance(node, (ast.FunctionDef, ast.ClassDef)):
                    self.assertEqual(node.decorator_list, [], where)
                if isinstance(node, ast.arguments):
                    self.assertFalse(node.vararg or node.kwarg or node.kwonlyargs or node.posonlyargs, path.name)
                if isinstance(node, ast.ClassDef):
                    self.assertLessEqual(len(node.bases), 1, where)
                if isinstance(node, ast.Expr) and not isinstance(node.value, ast.Call):
                    self.assertIsInstance(node.value, ast.Constant, where)

    def test_names(self):
        own_methods = methods_of_the_package()
        for path in files():
            tree_nodes = nodes(path)
            bound = bound_in(tree_nodes)
            for name in sorted(bound - own_methods):
                self.assertRegex(name, r"^[A-Za-z][A-Za-z0-9_]*$", path.name)
                self.assertNotIn(name, NAMES_OF_PYTHON, path.name)
            for node in tree_nodes:
                if isinstance(node, ast.Name) and isinstance(node.ctx, ast.Load):
                    self.assertIn(node.id, bound | set(NAMES_OF_PYTHON), (path.name, node.lineno))
                if isinstance(node, ast.Call) and isinstance(node.func, ast.Attribute):
                    self.assertIn(node.func.attr, own_methods | set(METHODS_OF_PYTHON), (path.name, node.lineno))


if __name__ == "__main__":
    unittest.main()
