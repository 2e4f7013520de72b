"""The package keeps to the small part of Python that it is written in: the rules a syntax tree shows."""

import ast
import builtins
import pathlib
import re
import unittest

PACKAGE = pathlib.Path(__file__).resolve().parent.parent / "turnframe"

WORDS_OUT = (
    "type", "typing", "typing_extensions", "enum", "Enum", "IntEnum", "StrEnum", "Flag", "IntFlag", "Generic",
    "Protocol", "ABC", "ABCMeta", "namedtuple", "NamedTuple", "TypedDict", "TYPE_CHECKING", "abstractmethod",
)
NAMES_OF_PYTHON = """
    len range enumerate zip min max sum abs sorted reversed int str bool list tuple dict set frozenset isinstance ord
    repr any all divmod Exception ValueError TypeError KeyError IndexError LookupError ZeroDivisionError
    ArithmeticError OverflowError RuntimeError NotImplementedError AttributeError StopIteration
""".split()
METHODS_OF_PYTHON = """
    append clear copy count endswith extend find get index insert isalnum isalpha isdigit islower isspace isupper
    items join keys ljust lower lstrip partition pop remove replace reverse rfind rjust rpartition rsplit rstrip
    setdefault split splitlines startswith strip update upper values zfill bit_length
""".split()
SPECIAL_METHODS = ("__init__", "__eq__", "__repr__", "__str__", "__len__")
NODES_OUT = (
    ast.AnnAssign, ast.Assert, ast.AsyncFor, ast.AsyncFunctionDef, ast.AsyncWith, ast.Await, ast.Delete, ast.DictComp,
    ast.Div, ast.GeneratorExp, ast.Global, ast.Import, ast.MatMult, ast.Match, ast.NamedExpr, ast.Nonlocal,
    ast.SetComp, ast.Starred, ast.With, ast.Yield, ast.YieldFrom,
)
STATEMENTS = (
    ast.Assign, ast.AugAssign, ast.Break, ast.ClassDef, ast.Continue, ast.Expr, ast.For, ast.FunctionDef, ast.If,
    ast.ImportFrom, ast.Pass, ast.Raise, ast.Return, ast.Try, ast.While,
)
NAMES_OUT = """
    register mro elements open input version_info with_traceback add_note attrgetter breakpoint builtins compile
    copyright credits delattr dir eval exec exit gc getattr globals hasattr help id importlib license locals
    methodcaller os quit setattr super type vars sys chr format format_map
""".split()
VALUES_OF_PYTHON = (0, "", [], (), {}, set(), b"")
WALKED = ("zip", "enumerate", "reversed", "range")
WALKERS = ("list", "tuple", "dict", "sorted", "sum", "any", "all", "enumerate", "zip", "min", "max")


def files():
    return sorted(PACKAGE.rglob("*.py"))


def nodes(path):
    return list(ast.walk(ast.parse(path.read_text(encoding="utf-8"))))


def bound_in(tree_nodes):
    """Every name that a file binds: by import, def, class, parameter, assignment, loop or handler."""
    found = set()
    for node in tree_nodes:
        if isinstance(node, (ast.FunctionDef, ast.ClassDef)):
            found.add(node.name)
        elif isinstance(node, ast.alias):
            found.add(node.asname or node.name)
        elif isinstance(node, ast.arg):
            found.add(node.arg)
        elif isinstance(node, ast.Name) and not isinstance(node.ctx, ast.Load):
            found.add(node.id)
        elif isinstance(node, ast.ExceptHandler) and node.name:
            found.add(node.name)
    return found


def names_at_top(tree):
    """Every name that a file binds at its top, as often as it binds it there."""
    found = []
    for node in tree.body:
        if isinstance(node, (ast.FunctionDef, ast.ClassDef)):
            found.append(node.name)
        elif isinstance(node, ast.ImportFrom):
            found += [each.asname or each.name for each in node.names]
        elif isinstance(node, ast.Assign):
            found += [each.id for target in node.targets for each in ast.walk(target) if isinstance(each, ast.Name)]
    return found


def locals_of(function):
    """The parameters and locals of a def."""
    found = {each.arg for each in ast.walk(function) if isinstance(each, ast.arg)}
    stored = [each for each in ast.walk(function) if isinstance(each, ast.Name) and isinstance(each.ctx, ast.Store)]
    return found | {each.id for each in stored}


def drawn_from(path):
    """The files of the package that a file imports from, with the names it takes."""
    tree = ast.parse(path.read_text(encoding="utf-8"))
    rows = [node for node in tree.body if isinstance(node, ast.ImportFrom)]
    return [(node.module.split(".")[1], [each.name for each in node.names]) for node in rows]


def walked_calls(tree_nodes):
    """The calls whose answer is to be walked on the spot, and those that stand where they are walked."""
    found, right = [], []
    for node in tree_nodes:
        if isinstance(node, ast.Call) and called(node) in WALKED + ("items", "keys", "values"):
            found.append(node)
        if isinstance(node, (ast.For, ast.comprehension)):
            right.append(node.iter)
        if isinstance(node, ast.Call) and called(node) in WALKERS and node.args:
            # What zip is handed is walked with it, whichever place it stands at.
            right += node.args if called(node) == "zip" else node.args[:1]
    return found, right


def called(node):
    return node.func.id if isinstance(node.func, ast.Name) else getattr(node.func, "attr", None)


def methods_of_the_package():
    found = set(SPECIAL_METHODS)
    for path in files():
        for node in nodes(path):
            if isinstance(node, ast.ClassDef):
                found |= {each.name for each in node.body if isinstance(each, ast.FunctionDef)}
    return found


class Language(unittest.TestCase):

    def test_files(self):
        self.assertTrue((PACKAGE / "__init__.py").is_file())
        for path in PACKAGE.rglob("*"):
            if path.is_file() and path.parent.name != "__pycache__":
                self.assertRegex(path.name, r"^(__init__|__main__|[a-z][a-z0-9_]*)\.py$")

    def test_signs_and_sizes(self):
        for path in files():
            text = path.read_text(encoding="utf-8")
            self.assertRegex(text, r"\A[ -~\n]*\Z", path.name)
            rows = text.split("\n")
            self.assertLessEqual(len(rows), 400, path.name)
            self.assertLessEqual(max([len(row) for row in rows]), 120, path.name)
            for node in nodes(path):
                if isinstance(node, ast.FunctionDef):
                    self.assertLessEqual(node.end_lineno - node.lineno + 1, 40, (path.name, node.name))

    def test_words(self):
        for path in files():
            text = path.read_text(encoding="utf-8")
            self.assertEqual([word for word in WORDS_OUT if re.search(rf"\b{word}\b", text)], [], path.name)
            self.assertIsNone(re.search("dataclass|overload|contextmanager", text), path.name)

    def test_imports(self):
        for path in files():
            for node in nodes(path):
                if isinstance(node, ast.ImportFrom):
                    self.assertEqual(node.level, 0, path.name)
                    self.assertTrue(node.module.startswith("turnframe."), (path.name, node.module))
                    self.assertNotIn("*", [each.name for each in node.names], path.name)

    def test_forms(self):
        for path in files():
            for node in nodes(path):
                where = (path.name, getattr(node, "lineno", None))
                self.assertNotIsInstance(node, NODES_OUT, where)
                if isinstance(node, ast.Constant):
                    self.assertNotIsInstance(node.value, (float, complex, bytes), where)
                if isinstance(node, (ast.For, ast.While)):
                    self.assertEqual(node.orelse, [], where)
                if isinstance(node, ast.Assign):
                    self.assertEqual(len(node.targets), 1, where)
                if isinstance(node, ast.ListComp):
                    self.assertEqual(len(node.generators), 1, where)
                    self.assertLessEqual(len(node.generators[0].ifs), 1, where)
                if isinstance(node, (ast.FunctionDef, ast.ClassDef)):
                    self.assertEqual(node.decorator_list, [], where)
                if isinstance(node, ast.arguments):
                    self.assertFalse(node.vararg or node.kwarg or node.kwonlyargs or node.posonlyargs, path.name)
                if isinstance(node, ast.ClassDef):
                    self.assertLessEqual(len(node.bases), 1, where)
                if isinstance(node, ast.Expr) and not isinstance(node.value, ast.Call):
                    self.assertIsInstance(node.value, ast.Constant, where)

    def test_names(self):
        own_methods = methods_of_the_package()
        for path in files():
            tree_nodes = nodes(path)
            bound = bound_in(tree_nodes)
            for name in sorted(bound - own_methods):
                self.assertRegex(name, r"^[A-Za-z][A-Za-z0-9_]*$", path.name)
                self.assertNotIn(name, NAMES_OF_PYTHON, path.name)
            for node in tree_nodes:
                if isinstance(node, ast.Name) and isinstance(node.ctx, ast.Load):
                    self.assertIn(node.id, bound | set(NAMES_OF_PYTHON), (path.name, node.lineno))
                if isinstance(node, ast.Call) and isinstance(node.func, ast.Attribute):
                    self.assertIn(node.func.attr, own_methods | set(METHODS_OF_PYTHON), (path.name, node.lineno))

    def test_statements(self):
        for path in files():
            tree = ast.parse(path.read_text(encoding="utf-8"))
            for node in ast.walk(tree):
                if isinstance(node, ast.stmt):
                    self.assertIsInstance(node, STATEMENTS, (path.name, node.lineno))
            for node in tree.body:
                self.assertIsInstance(node, (ast.Expr, ast.ImportFrom, ast.FunctionDef, ast.ClassDef, ast.Assign))
            for node in ast.walk(tree):
                if isinstance(node, ast.ClassDef):
                    for each in node.body:
                        plain = isinstance(each, ast.Expr) and isinstance(each.value, ast.Constant)
                        self.assertTrue(plain or isinstance(each, (ast.FunctionDef, ast.Pass)), (path.name, node.name))

    def test_each_name_at_a_top_once_and_none_of_them_as_a_local(self):
        for path in files():
            tree = ast.parse(path.read_text(encoding="utf-8"))
            top = names_at_top(tree)
            self.assertEqual(len(set(top)), len(top), path.name)
            for node in ast.walk(tree):
                if isinstance(node, ast.FunctionDef):
                    self.assertEqual(locals_of(node) & set(top), set(), (path.name, node.name))
                    self.assertEqual(locals_of(node) & set(dir(builtins)), set(), (path.name, node.name))

    def test_names_that_are_not_used(self):
        for path in files():
            for node in nodes(path):
                names = [getattr(node, field, None) for field in ("id", "attr", "name", "arg")]
                self.assertEqual([each for each in names if each in NAMES_OUT], [], path.name)

    def test_imports_are_from_the_defining_file_and_none_go_round(self):
        below = {path.stem: drawn_from(path) for path in files()}
        for name, rows in below.items():
            for module, taken in rows:
                defined = [each for each in (PACKAGE / f"{module}.py",) if each.is_file()]
                self.assertTrue(defined, (name, module))
                tree = ast.parse(defined[0].read_text(encoding="utf-8"))
                tree.body = [each for each in tree.body if not isinstance(each, ast.ImportFrom)]
                own = names_at_top(tree)
                self.assertEqual([each for each in taken if each not in own], [], (name, module))
        left = {name: {module for module, taken in rows} for name, rows in below.items()}
        while left:
            lowest = [name for name, modules in left.items() if not modules & set(left)]
            self.assertTrue(lowest, sorted(left))
            left = {name: modules for name, modules in left.items() if name not in lowest}

    def test_is_powers_and_signs(self):
        for path in files():
            for node in nodes(path):
                where = (path.name, getattr(node, "lineno", None))
                if isinstance(node, ast.Compare) and isinstance(node.ops[0], (ast.Is, ast.IsNot)):
                    self.assertIsInstance(node.comparators[0], ast.Constant, where)
                if isinstance(node, ast.BinOp) and isinstance(node.op, ast.Pow):
                    self.assertIsInstance(node.right, ast.Constant, where)
                if isinstance(node, ast.Constant) and isinstance(node.value, str):
                    self.assertNotIn("%", node.value, where)

    def test_walked_on_the_spot(self):
        for path in files():
            found, right = walked_calls(nodes(path))
            self.assertEqual([(path.name, node.lineno) for node in found if node not in right], [])

    def test_methods_and_values(self):
        values = set()
        for path in files():
            for node in nodes(path):
                if isinstance(node, ast.Attribute) and isinstance(node.ctx, ast.Store):
                    values.add(node.attr)
        methods = methods_of_the_package() - set(SPECIAL_METHODS)
        self.assertEqual(methods & values, set())
        for name in sorted(methods | values):
            self.assertFalse([each for each in VALUES_OF_PYTHON if hasattr(each, name)], name)


if __name__ == "__main__":
    unittest.main()
