"""The package keeps to the small part of Python that it is written in."""

import ast
import builtins
import pathlib
import re
import unittest

PACKAGE = pathlib.Path(__file__).resolve().parent.parent / "cutstree"
FILES = sorted(path for path in PACKAGE.iterdir() if path.name != "__pycache__")
OWN_NAMES = set(
    "len range enumerate zip min max sum abs sorted reversed int str bool bytes list tuple dict set isinstance ord repr "
    "any all divmod Exception ValueError TypeError KeyError IndexError LookupError ZeroDivisionError ArithmeticError "
    "OverflowError RuntimeError NotImplementedError AttributeError StopIteration".split())
METHODS = set(
    "append clear copy count endswith extend find get index insert isalnum isalpha isdigit islower isspace isupper "
    "items join keys ljust lower lstrip partition pop remove replace reverse rfind rjust rpartition rsplit rstrip "
    "setdefault split splitlines startswith strip update upper values zfill bit_length add discard sort".split())
NO_WORDS = set(
    "type typing typing_extensions enum Enum IntEnum StrEnum Flag IntFlag Generic Protocol ABC ABCMeta namedtuple "
    "NamedTuple TypedDict TYPE_CHECKING abstractmethod".split())
NO_NAMES = set("register mro elements open input version_info with_traceback add_note sys id vars exec eval".split())
NO_NODES = (
    ast.GeneratorExp, ast.Yield, ast.YieldFrom, ast.With, ast.Global, ast.Nonlocal, ast.AsyncFunctionDef,
    ast.AsyncFor, ast.AsyncWith, ast.Await, ast.NamedExpr, ast.Div, ast.MatMult, ast.Match, ast.Import, ast.AnnAssign,
)
TOP = (ast.ImportFrom, ast.FunctionDef, ast.ClassDef, ast.Assign)
LAZY = {"zip", "enumerate", "reversed", "range", "items", "keys", "values"}
WALKERS = {"list", "tuple", "dict", "sorted", "sum", "any", "all", "enumerate", "zip", "bytes", "min", "max"}
CHANGES = {"append", "clear", "extend", "insert", "pop", "remove", "reverse", "setdefault", "update", "sort"}
KEYWORDS = {
    "sorted": {"key", "reverse"}, "sort": {"key", "reverse"}, "min": {"key", "default"}, "max": {"key", "default"},
    "sum": {"start"}, "enumerate": {"start"}, "zip": {"strict"},
}
UNDERSCORED = {"__init__", "__eq__", "__repr__", "__str__", "__len__"}


def trees():
    return {path.stem: ast.parse(path.read_text("utf-8")) for path in FILES}


def nodes(kind):
    for name, tree in trees().items():
        for node in ast.walk(tree):
            if isinstance(node, kind):
                yield name, node


def bound(tree):
    """The names that a file's top binds, with what they are bound by."""
    found = []
    for row in tree.body:
        if isinstance(row, (ast.FunctionDef, ast.ClassDef)):
            found.append((row.name, row))
        if isinstance(row, ast.Assign):
            found.extend((target.id, row) for target in row.targets)
        if isinstance(row, ast.ImportFrom):
            found.extend((one.asname or one.name, row) for one in row.names)
    return found


def called(node):
    """The name of what is called: a name, or a method's."""
    return node.func.attr if isinstance(node.func, ast.Attribute) else getattr(node.func, "id", None)


def walked_on_the_spot(tree):
    for node in ast.walk(tree):
        if isinstance(node, (ast.For, ast.comprehension)):
            yield node.iter
        if isinstance(node, ast.Call) and called(node) in WALKERS | {"join"}:
            yield from node.args if called(node) == "zip" else node.args[:1]


def walked_things(walk):
    """What is walked, itself or through enumerate, zip, reversed, items."""
    if isinstance(walk, ast.Call) and called(walk) in ("enumerate", "zip", "reversed"):
        return [one for arg in walk.args for one in walked_things(arg)]
    if isinstance(walk, ast.Call) and called(walk) in ("items", "keys", "values"):
        return [walk.func.value]
    return [walk]


def changed_thing(node):
    """The thing that a call or a target changes, as it is written; None if it changes none."""
    if isinstance(node, ast.Call) and isinstance(node.func, ast.Attribute) and node.func.attr in CHANGES:
        return ast.unparse(node.func.value)
    if isinstance(node, ast.Subscript) and not isinstance(node.ctx, ast.Load):
        return ast.unparse(node.value)
    return None


class Signs(unittest.TestCase):
    def test_files(self):
        self.assertIn("__init__.py", [path.name for path in FILES])
        for path in FILES:
            self.assertRegex(path.name, r"^(__init__|[a-z][a-z0-9_]*)\.py$")

    def test_rows(self):
        for path in FILES:
            text = path.read_bytes().decode("ascii")
            rows = text.split("\n")
            self.assertLessEqual(len(rows), 400, path.name)
            for at, row in enumerate(rows, start=1):
                self.assertLessEqual(len(row), 120, (path.name, at))
                self.assertRegex(row, r"^[ -~]*$", (path.name, at))

    def test_words(self):
        for path in FILES:
            text = path.read_text("utf-8")
            self.assertEqual(set(re.findall(r"\w+", text)) & NO_WORDS, set(), path.name)
            self.assertNotRegex(text, "dataclass|overload|contextmanager", path.name)

    def test_texts(self):
        for name, node in nodes(ast.Constant):
            self.assertIn(type(node.value), (int, str, bytes, bool, type(None)), name)
            if isinstance(node.value, str):
                self.assertNotIn("%", node.value, name)


class Rows(unittest.TestCase):
    def test_no_other_statements(self):
        for name, node in nodes(NO_NODES):
            self.fail(f"{name}: {ast.dump(node)}")

    def test_tops(self):
        for name, tree in trees().items():
            self.assertIsNotNone(ast.get_docstring(tree), name)
            for row in tree.body[1:]:
                self.assertIsInstance(row, TOP, name)
            names = [one for one, row in bound(tree)]
            self.assertEqual(len(names), len(set(names)), name)

    def test_imports(self):
        found = trees()
        for name, row in nodes(ast.ImportFrom):
            self.assertEqual(row.level, 0, name)
            package, module = row.module.split(".")
            self.assertEqual(package, "cutstree")
            made = [one for one, by in bound(found[module]) if not isinstance(by, ast.ImportFrom)]
            for one in row.names:
                self.assertIn(one.name, made, name)
                self.assertIsNone(one.asname, name)

    def test_imports_are_used(self):
        for name, tree in trees().items():
            used = {node.id for node in ast.walk(tree) if isinstance(node, ast.Name)}
            for one, row in bound(tree):
                if isinstance(row, ast.ImportFrom):
                    self.assertIn(one, used, name)

    def test_no_rings_of_imports(self):
        drawn = {name: set() for name in trees()}
        for name, row in nodes(ast.ImportFrom):
            drawn[name].add(row.module.split(".")[1])
        while drawn:
            last = [name for name in drawn if not drawn[name] & set(drawn)]
            self.assertNotEqual(last, [], drawn)
            for name in last:
                del drawn[name]

    def test_functions(self):
        for name, node in nodes((ast.FunctionDef, ast.Lambda)):
            args = node.args
            self.assertEqual((args.vararg, args.kwarg, args.posonlyargs), (None, None, []), name)
            if isinstance(node, ast.FunctionDef):
                self.assertLessEqual(node.end_lineno - node.lineno + 1, 40, (name, node.name))
                self.assertEqual((node.decorator_list, node.returns), ([], None), (name, node.name))

    def test_classes(self):
        methods, values = set(), set()
        for name, node in nodes(ast.ClassDef):
            self.assertEqual((node.decorator_list, node.keywords), ([], []), name)
            self.assertLessEqual(len(node.bases), 1, name)
            for row in node.body:
                if not (isinstance(row, ast.Expr) and isinstance(row.value, ast.Constant)):
                    self.assertIsInstance(row, ast.FunctionDef, name)
            methods |= {row.name for row in node.body if isinstance(row, ast.FunctionDef)}
        for name, node in nodes(ast.Attribute):
            if isinstance(node.ctx, ast.Store):
                values.add(node.attr)
        self.assertEqual(methods & values, set())
        for name, node in nodes(ast.Attribute):
            self.assertIn(node.attr, methods | values | METHODS, name)


class Names(unittest.TestCase):
    def test_python_s_own(self):
        for name, node in nodes(ast.Name):
            if hasattr(builtins, node.id):
                self.assertIsInstance(node.ctx, ast.Load, (name, node.id))
                self.assertIn(node.id, OWN_NAMES, name)

    def test_plain(self):
        for name, tree in trees().items():
            drawn = {one for one, row in bound(tree) if isinstance(row, (ast.ImportFrom, ast.ClassDef))}
            for node in ast.walk(tree):
                given = None
                if isinstance(node, ast.FunctionDef):
                    given = node.name
                if isinstance(node, ast.arg):
                    given = node.arg
                if isinstance(node, ast.Name) and isinstance(node.ctx, ast.Store):
                    given = node.id
                if given is not None and given not in UNDERSCORED:
                    self.assertRegex(given, r"^[A-Za-z][A-Za-z0-9_]*$", name)
                    self.assertFalse(hasattr(builtins, given) or given in drawn or given in NO_NAMES, (name, given))

    def test_is(self):
        for name, node in nodes(ast.Compare):
            for sign, right in zip(node.ops, node.comparators):
                if isinstance(sign, (ast.Is, ast.IsNot)):
                    self.assertIsInstance(right, ast.Constant, name)
                    self.assertIn(right.value, (None, True, False), name)

    def test_no_star(self):
        for name, node in nodes(ast.Starred):
            self.assertIsInstance(node.ctx, ast.Store, name)

    def test_no_format(self):
        for name, node in nodes(ast.FormattedValue):
            self.assertIsNone(node.format_spec, name)

    def test_walked_at_once(self):
        for name, tree in trees().items():
            walked = list(walked_on_the_spot(tree))
            for node in ast.walk(tree):
                if isinstance(node, ast.Call) and called(node) in LAZY:
                    self.assertTrue(any(node is one for one in walked), (name, node.lineno))

    def test_what_is_walked_is_not_changed(self):
        for name, loop in nodes(ast.For):
            walked = {ast.unparse(one) for one in walked_things(loop.iter)}
            for row in loop.body:
                for node in ast.walk(row):
                    self.assertNotIn(changed_thing(node), walked, (name, node))

    def test_keywords(self):
        for name, node in nodes(ast.Call):
            words = {word.arg for word in node.keywords}
            if called(node) in OWN_NAMES | METHODS:
                self.assertLessEqual(words, KEYWORDS.get(called(node), set()), (name, node.lineno))

    def test_sets_are_not_walked(self):
        for name, node in nodes((ast.For, ast.comprehension)):
            self.assertNotIsInstance(node.iter, (ast.Set, ast.SetComp), name)


if __name__ == "__main__":
    unittest.main()
