"""The rules of the language that a glance at the syntax can tell, for each file of the package."""

import ast
import builtins
import re
import unittest
from pathlib import Path

PACKAGE = Path(__file__).resolve().parent.parent / "turnedtunes"
FILES = sorted(PACKAGE.rglob("*.py"))

STATEMENTS = (
    ast.Assign, ast.AugAssign, ast.AnnAssign, ast.If, ast.While, ast.For, ast.Return, ast.Break, ast.Continue,
    ast.Pass, ast.Raise, ast.Assert, ast.Delete, ast.Nonlocal, ast.Match, ast.With, ast.Try, ast.Expr,
    ast.FunctionDef, ast.ClassDef, ast.ImportFrom,
)
LIBRARY = {"heapq", "math", "itertools", "collections", "__future__"}
BUILTINS = set(
    "len range enumerate zip min max sum abs sorted reversed int str bool list tuple dict set frozenset isinstance "
    "ord repr any all divmod pow getattr hasattr setattr iter next map super property staticmethod classmethod "
    "Exception ValueError TypeError KeyError IndexError LookupError ZeroDivisionError ArithmeticError OverflowError "
    "RuntimeError NotImplementedError AttributeError StopIteration NotImplemented".split())
DUNDERS = set(
    "init eq repr str len enter exit call iter lt le gt ge ne add sub mul floordiv mod pow and or xor lshift rshift "
    "radd rsub rmul rfloordiv rmod rand ror rxor rlshift rrshift iadd isub imul ifloordiv imod ipow iand ior ixor "
    "ilshift irshift neg pos invert abs bool contains getitem setitem".split())
NEVER = {"register", "mro", "elements", "open", "input", "law", "version_info", "with_traceback", "add_note"}
WORDS = set(
    "type typing typing_extensions enum Enum IntEnum StrEnum Flag IntFlag Generic Protocol ABC ABCMeta namedtuple "
    "NamedTuple TypedDict TYPE_CHECKING abstractmethod dataclass overload contextmanager".split())


def nodes(path):
    return ast.walk(ast.parse(path.read_text("utf-8")))


def docstrings(path):
    holders = (ast.Module, ast.ClassDef, ast.FunctionDef)
    found = [node.body[0].value for node in nodes(path) if isinstance(node, holders) and ast.get_docstring(node)]
    return {(node.lineno, node.col_offset) for node in found}


def bound_names(path):
    for node in nodes(path):
        if isinstance(node, ast.Name) and isinstance(node.ctx, ast.Store):
            yield node.id
        elif isinstance(node, (ast.FunctionDef, ast.ClassDef)):
            yield node.name
        elif isinstance(node, ast.arg):
            yield node.arg
        elif isinstance(node, ast.Attribute):
            yield node.attr


class Language(unittest.TestCase):

    def each(self, wrong):
        for path in FILES:
            self.assertEqual(list(wrong(path)), [], path.name)

    def test_only_python_files_in_one_folder(self):
        for path in PACKAGE.rglob("*"):
            if "__pycache__" not in path.parts and not path.is_dir():
                self.assertRegex(path.name, r"^[a-z0-9_]+\.py$")
        self.assertIn(PACKAGE / "__init__.py", FILES)

    def test_sizes(self):
        for path in FILES:
            lines = path.read_text("utf-8").split("\n")
            self.assertLess(len(lines), 400, path.name)
            self.assertEqual([line for line in lines if len(line) > 120], [])
        self.each(lambda path: [node.name for node in nodes(path) if isinstance(node, ast.FunctionDef)
                                and node.end_lineno - node.lineno + 1 > 40])

    def test_characters(self):
        for path in FILES:
            self.assertIsNone(re.search(r"[^ -~\n]", path.read_text("utf-8")), path.name)

    def test_imports(self):
        def wrong(path):
            for node in nodes(path):
                if isinstance(node, ast.Import):
                    yield node.lineno
                if isinstance(node, ast.ImportFrom):
                    own = node.module.startswith("turnedtunes.") and node.level == 0
                    renamed = [alias.name for alias in node.names if alias.asname or alias.name == "*"]
                    if renamed or not (own or node.module in LIBRARY):
                        yield node.lineno
        self.each(wrong)

    def test_statements(self):
        self.each(lambda path: [node.lineno for node in nodes(path)
                                if isinstance(node, ast.stmt) and not isinstance(node, STATEMENTS)])

    def test_decorators(self):
        allowed = r"property|staticmethod|classmethod|\w+\.setter"
        self.each(lambda path: [
            node.lineno for node in nodes(path) if isinstance(node, (ast.FunctionDef, ast.ClassDef))
            for decorator in node.decorator_list
            if isinstance(node, ast.ClassDef) or not re.fullmatch(allowed, ast.unparse(decorator))])

    def test_double_underscores(self):
        self.each(lambda path: [name for name in bound_names(path)
                                if name.startswith("__") and name[2:-2] not in DUNDERS])

    def test_builtins(self):
        everything = set(dir(builtins))
        self.each(lambda path: [node.id for node in nodes(path) if isinstance(node, ast.Name)
                                and node.id in everything - BUILTINS])
        self.each(lambda path: [node.id for node in nodes(path) if isinstance(node, ast.Name)
                                and isinstance(node.ctx, ast.Store) and node.id in everything])

    def test_names_and_words(self):
        self.each(lambda path: [name for name in bound_names(path) if name in NEVER])

        def wrong(path):
            told = docstrings(path)
            for node in nodes(path):
                if isinstance(node, ast.Constant) and isinstance(node.value, str):
                    if "%" in node.value or (
                            (node.lineno, node.col_offset) not in told and WORDS & set(re.findall(r"\w+", node.value))):
                        yield node.value
                if isinstance(node, ast.Name) and node.id in WORDS:
                    yield node.id
        self.each(wrong)

    def test_nothing_is_named_like_an_import_or_a_class_of_its_file(self):
        def wrong(path):
            taken = {alias.name for node in nodes(path) if isinstance(node, ast.ImportFrom) for alias in node.names}
            taken |= {node.name for node in nodes(path) if isinstance(node, ast.ClassDef)}
            for node in nodes(path):
                if isinstance(node, ast.Name) and isinstance(node.ctx, ast.Store) and node.id in taken:
                    yield node.id
                if isinstance(node, ast.arg) and node.arg in taken:
                    yield node.arg
        self.each(wrong)

    def test_no_generator_expressions_and_no_sort_in_place(self):
        # Classes of the package have __eq__ and operators: so lists are handed on.
        self.each(lambda path: [node.lineno for node in nodes(path) if isinstance(node, ast.GeneratorExp)])
        self.each(lambda path: [node.lineno for node in nodes(path)
                                if isinstance(node, ast.Attribute) and node.attr == "sort"])

    def test_stars_in_calls_stand_before_names(self):
        plain = (ast.Name, ast.Attribute, ast.Constant, ast.List, ast.Tuple)
        self.each(lambda path: [node.lineno for node in nodes(path) if isinstance(node, ast.Call)
                                for given in node.args
                                if isinstance(given, ast.Starred) and not isinstance(given.value, plain)])

    def test_no_two_files_import_from_each_other(self):
        above = {path.stem: {node.module.split(".")[1] for node in nodes(path)
                             if isinstance(node, ast.ImportFrom) and "." in node.module} for path in FILES}
        while above:
            free = [name for name in above if not above[name]]
            self.assertTrue(free, above)
            above = {name: above[name] - set(free) for name in above if name not in free}

    def test_no_floats(self):
        self.each(lambda path: [node.lineno for node in nodes(path)
                                if isinstance(node, ast.Div)
                                or (isinstance(node, ast.Constant) and isinstance(node.value, (float, complex)))])

    def test_exponents_are_small_literals(self):
        def wrong(path):
            for node in nodes(path):
                if isinstance(node, ast.BinOp) and isinstance(node.op, ast.Pow):
                    if not (isinstance(node.right, ast.Constant) and 0 <= node.right.value <= 64):
                        yield node.lineno
        self.each(wrong)

    def test_no_assignments_by_operators(self):
        # A class has __iadd__ and __isub__: so what operators run takes no += and no -=.
        self.each(lambda path: [node.lineno for node in nodes(path) if isinstance(node, ast.AugAssign)])

    def test_what_is_called_where_a_block_is_left(self):
        # Nothing; and nothing is tested there but whether something is None.
        def wrong(path):
            for node in nodes(path):
                if isinstance(node, ast.FunctionDef) and node.name == "__exit__":
                    for inner in ast.walk(node):
                        if isinstance(inner, (ast.Call, ast.BinOp, ast.UnaryOp, ast.Subscript)):
                            yield inner.lineno
                        if isinstance(inner, ast.Compare) and ast.unparse(inner.comparators[0]) != "None":
                            yield inner.lineno
                        if isinstance(inner, ast.Name) and inner.id in ("value", "trace"):
                            yield inner.lineno
        self.each(wrong)

    def test_a_class_with_items_says_how_it_is_iterated(self):
        def wrong(path):
            for node in nodes(path):
                if isinstance(node, ast.ClassDef):
                    names = {inner.name for inner in node.body if isinstance(inner, ast.FunctionDef)}
                    if "__getitem__" in names and "__iter__" not in names:
                        yield node.name
        self.each(wrong)

    def test_errors_that_are_caught(self):
        barred = {"Exception", "TypeError", "ArithmeticError", "OverflowError", "RuntimeError",
                  "NotImplementedError", "AttributeError"}

        def wrong(path):
            for node in nodes(path):
                if isinstance(node, ast.ExceptHandler):
                    if node.type is None or barred & set(re.findall(r"\w+", ast.unparse(node.type))):
                        yield node.lineno
        self.each(wrong)


if __name__ == "__main__":
    unittest.main()
