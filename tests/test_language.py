"""The rules of LANGUAGE.md that can be told from the package's files, by number."""

import ast
import builtins
import pathlib
import re
import unittest

PACKAGE = pathlib.Path(__file__).resolve().parent.parent / "loopgyre"
MODULES = (
    "__init__", "errors", "floors", "signs", "heights", "arrows", "sides", "triangles", "turns", "lattice", "links",
    "gyres", "webs", "books", "counts",
)

NODES = (
    "Module FunctionDef ClassDef arguments arg Return Assign AugAssign AnnAssign For While If Raise Try "
    "ExceptHandler Expr Pass Break Continue Import ImportFrom alias BoolOp BinOp UnaryOp Lambda IfExp Dict Set "
    "ListComp comprehension Compare Call JoinedStr FormattedValue Constant Attribute Subscript Slice Name List "
    "Tuple keyword Load Store And Or Not USub UAdd Invert Add Sub Mult FloorDiv Mod Pow BitAnd BitOr BitXor "
    "LShift RShift Eq NotEq Lt LtE Gt GtE Is IsNot In NotIn"
).split()

OWN_NAMES = (
    "len range enumerate zip min max sum abs sorted reversed int str bool list tuple dict set frozenset "
    "isinstance ord repr any all divmod Exception ValueError TypeError KeyError IndexError LookupError "
    "ZeroDivisionError ArithmeticError OverflowError RuntimeError NotImplementedError AttributeError StopIteration"
).split()

OWN_METHODS = (
    "append clear copy count endswith extend find get index insert isalnum isalpha isdigit islower isspace isupper "
    "items join keys ljust lower lstrip partition pop remove replace reverse rfind rjust rpartition rsplit rstrip "
    "setdefault split splitlines startswith strip update upper values zfill bit_length"
).split()

KEYWORDS = {
    "sorted": ("key", "reverse"), "min": ("key", "default"), "max": ("key", "default"),
    "sum": ("start",), "enumerate": ("start",), "zip": ("strict",),
}

# Where a walk may stand that is not kept (L23).
WALKED_BY = ("list", "tuple", "dict", "sorted", "sum", "any", "all", "enumerate", "zip", "min", "max")
WALKS = ("zip", "enumerate", "reversed", "range", "items", "keys", "values")

FREE_METHODS = ("__init__", "__eq__", "__repr__", "__str__", "__len__")

NOWHERE = (
    "register mro elements open input version_info with_traceback add_note attrgetter breakpoint builtins compile "
    "copyright credits delattr dir eval exec exit gc getattr globals hasattr help id importlib license locals "
    "methodcaller os quit setattr super type vars sys __name__ chr"
).split()

WORDS = re.compile(
    r"\b(type|typing|typing_extensions|enum|Enum|IntEnum|StrEnum|Flag|IntFlag|Generic|Protocol|ABC|ABCMeta|"
    r"namedtuple|NamedTuple|TypedDict|TYPE_CHECKING|abstractmethod)\b|dataclass|overload|contextmanager"
)

PYTHONS_OWN = {name for kind in (str, int, list, tuple, dict, set, bytes) for name in dir(kind)}


def called(node):
    """The name of what a call calls, None of another thing."""
    if not isinstance(node, ast.Call):
        return None
    return node.func.id if isinstance(node.func, ast.Name) else getattr(node.func, "attr", None)


def files():
    return sorted(PACKAGE.glob("*.py"))


def trees():
    return [(path.stem, ast.parse(path.read_text())) for path in files() if path.stem != "__main__"]


def nodes(kind):
    for stem, tree in trees():
        for node in ast.walk(tree):
            if isinstance(node, kind):
                yield stem, node


def top_names(tree):
    told = []
    for node in tree.body:
        if isinstance(node, (ast.FunctionDef, ast.ClassDef)):
            told.append(node.name)
        elif isinstance(node, ast.Assign) and isinstance(node.targets[0], ast.Name):
            told.append(node.targets[0].id)
        elif isinstance(node, ast.ImportFrom):
            told += [name.asname or name.name for name in node.names]
    return told


def top_names_of(node):
    return top_names(ast.Module([node], []))


def bound_names(tree):
    told = set(top_names(tree))
    for node in ast.walk(tree):
        if isinstance(node, ast.arg):
            told.add(node.arg)
        elif isinstance(node, ast.Name) and isinstance(node.ctx, ast.Store):
            told.add(node.id)
        elif isinstance(node, ast.ExceptHandler) and node.name:
            told.add(node.name)
        elif isinstance(node, ast.FunctionDef):
            told.add(node.name)
    return told


def drawn_from(tree):
    return {node.module for node in tree.body if isinstance(node, ast.ImportFrom) and node.module != "__future__"}


class Files(unittest.TestCase):
    def test_only_plain_files(self):
        for path in PACKAGE.iterdir():
            if path.name != "__pycache__":
                self.assertRegex(path.name, r"^([a-z][a-z0-9_]*|__init__|__main__)\.py$")
                self.assertNotIn(path.stem, dir(builtins))

    def test_modules_are_there(self):
        stems = [path.stem for path in files()]
        for name in MODULES:
            self.assertIn(name, stems)

    def test_signs_and_sizes(self):
        for path in files():
            rows = path.read_bytes().decode("utf-8").split("\n")
            with self.subTest(path.name):
                self.assertLessEqual(len(rows), 401)
                for row in rows:
                    self.assertRegex(row, r"^[ -~]{0,120}\Z")
                    self.assertIsNone(WORDS.search(row), row)

    def test_functions_are_short(self):
        for stem, node in nodes(ast.FunctionDef):
            self.assertLessEqual(node.end_lineno - node.lineno + 1, 40, (stem, node.name))


class Imports(unittest.TestCase):
    def test_from_the_file_that_defines_the_name(self):
        told = {"loopgyre." + stem: tree for stem, tree in trees()}
        for stem, node in nodes((ast.Import, ast.ImportFrom)):
            with self.subTest(stem=stem, line=node.lineno):
                self.assertIsInstance(node, ast.ImportFrom)
                self.assertEqual((node.level, node.col_offset), (0, 0))
                self.assertIn(node.module, told)
                defined = [
                    name for part in told[node.module].body if not isinstance(part, ast.ImportFrom)
                    for name in top_names_of(part)
                ]
                for name in node.names:
                    self.assertIn(name.name, defined)

    def test_no_two_files_draw_from_one_another(self):
        left = {"loopgyre." + stem: drawn_from(tree) for stem, tree in trees()}
        while left:
            ready = [name for name in left if not left[name] & set(left)]
            self.assertTrue(ready, left)
            left = {name: left[name] for name in left if name not in ready}


class Forms(unittest.TestCase):
    def test_top_of_a_module(self):
        for stem, tree in trees():
            self.assertIsNotNone(ast.get_docstring(tree), stem)
            for node in tree.body[1:]:
                self.assertIsInstance(node, (ast.ImportFrom, ast.FunctionDef, ast.ClassDef, ast.Assign), stem)
            names = top_names(tree)
            self.assertEqual(len(names), len(set(names)), stem)

    def test_plain_values_at_the_top(self):
        for stem, tree in trees():
            for node in tree.body:
                if isinstance(node, ast.Assign):
                    self.assertIsInstance(node.targets[0], ast.Name, stem)
                    parts = list(ast.walk(node.value))
                    self.assertFalse([part for part in parts if isinstance(part, (ast.Call, ast.BinOp))], stem)
                    self.assertFalse([part for part in parts[1:] if isinstance(part, (ast.List, ast.Dict))], stem)

    def test_statements_and_expressions(self):
        for stem, node in nodes(ast.AST):
            with self.subTest(stem=stem, line=getattr(node, "lineno", None)):
                self.assertIn(node.__class__.__name__, NODES)
                self.assertFalse(getattr(node, "decorator_list", None))
                if isinstance(node, (ast.For, ast.While)):
                    self.assertFalse(node.orelse)
                if isinstance(node, ast.Try):
                    self.assertFalse(node.finalbody)
                if isinstance(node, ast.Assign):
                    self.assertEqual(len(node.targets), 1)

    def test_plain_parameters(self):
        for stem, node in nodes(ast.arguments):
            extra = (node.posonlyargs, node.kwonlyargs, node.vararg, node.kwarg)
            self.assertFalse(any(extra), stem)

    def test_classes(self):
        for stem, node in nodes(ast.ClassDef):
            self.assertLessEqual(len(node.bases), 1)
            self.assertFalse(node.keywords)
            for part in node.body:
                self.assertIsInstance(part, (ast.FunctionDef, ast.Pass), (stem, node.name))

    def test_comprehensions_are_simple(self):
        for stem, node in nodes(ast.ListComp):
            self.assertEqual(len(node.generators), 1, stem)
            self.assertLessEqual(len(node.generators[0].ifs), 1, stem)

    def test_walked_at_once(self):
        for stem, tree in trees():
            free = []
            for node in ast.walk(tree):
                if isinstance(node, (ast.For, ast.comprehension)):
                    free.append(id(node.iter))
                elif called(node) in WALKED_BY or called(node) == "join":
                    free += [id(part) for part in node.args]
            for node in ast.walk(tree):
                if called(node) in WALKS:
                    self.assertIn(id(node), free, (stem, node.lineno))

    def test_only_modules_have_docstrings(self):
        for stem, node in nodes(ast.Expr):
            if isinstance(node.value, ast.Constant):
                self.assertEqual(node.lineno, 1, stem)
            else:
                self.assertIsInstance(node.value, ast.Call, stem)

    def test_is_beside_none_and_truths_alone(self):
        for stem, node in nodes(ast.Compare):
            if any(isinstance(sign, (ast.Is, ast.IsNot)) for sign in node.ops):
                beside = [part.value for part in [node.left] + node.comparators if isinstance(part, ast.Constant)]
                self.assertTrue(any(value is None or value is True or value is False for value in beside), stem)

    def test_plain_values(self):
        for stem, node in nodes(ast.Constant):
            self.assertIsInstance(node.value, (int, str, type(None)), stem)
            if isinstance(node.value, str):
                self.assertNotIn("%", node.value, stem)

    def test_errors_taken_by_name(self):
        for stem, node in nodes(ast.ExceptHandler):
            self.assertIsNotNone(node.type, stem)
            taken = [part.id for part in ast.walk(node.type) if isinstance(part, ast.Name)]
            self.assertFalse({"Exception", "TypeError"} & set(taken), stem)


class Names(unittest.TestCase):
    def test_names_that_are_read(self):
        for stem, tree in trees():
            known = bound_names(tree) | set(OWN_NAMES)
            for node in ast.walk(tree):
                if isinstance(node, ast.Name):
                    self.assertIn(node.id, known, (stem, node.lineno))
                    self.assertNotIn(node.id, NOWHERE, (stem, node.lineno))

    def test_names_that_are_bound(self):
        for stem, tree in trees():
            for name in bound_names(tree):
                if name not in FREE_METHODS:
                    self.assertRegex(name, r"^[A-Za-z][A-Za-z0-9_]*$", stem)
                    self.assertNotIn(name, dir(builtins), stem)

    def test_no_local_is_called_like_a_class_or_an_import(self):
        for stem, tree in trees():
            taken = {name for node in tree.body if isinstance(node, ast.ImportFrom) for name in top_names_of(node)}
            taken |= {node.name for node in tree.body if isinstance(node, ast.ClassDef)}
            for node in tree.body:
                if isinstance(node, (ast.FunctionDef, ast.ClassDef)):
                    self.assertFalse(taken & bound_names(ast.Module(node.body, [])), (stem, node.name))
                    if isinstance(node, ast.FunctionDef):
                        self.assertFalse(taken & {part.arg for part in node.args.args}, (stem, node.name))

    def test_keywords(self):
        for stem, node in nodes(ast.Call):
            if node.keywords and isinstance(node.func, ast.Name):
                free = KEYWORDS.get(node.func.id, ())
                if node.func.id in OWN_NAMES:
                    self.assertTrue({word.arg for word in node.keywords} <= set(free), (stem, node.lineno))

    def test_methods(self):
        for stem, node in nodes(ast.Attribute):
            plain = node.attr in OWN_METHODS or node.attr == "__init__" or node.attr not in PYTHONS_OWN
            self.assertTrue(plain and node.attr not in NOWHERE, (stem, node.lineno, node.attr))


if __name__ == "__main__":
    unittest.main()
