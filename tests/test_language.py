"""The package's files keep to LANGUAGE.md, as far as a walk through their syntax can tell."""

import ast
import builtins
import pathlib
import re
import unittest

PACKAGE = pathlib.Path(__file__).resolve().parent.parent / "cellline"
FILES = sorted(PACKAGE.rglob("*.py"))

STATEMENTS = (
    ast.Assign, ast.AugAssign, ast.AnnAssign, ast.If, ast.While, ast.For, ast.Return, ast.Break, ast.Continue, ast.Pass,
    ast.Raise, ast.Try, ast.Expr, ast.FunctionDef, ast.ClassDef, ast.ImportFrom,
)
EXPRESSIONS = (
    ast.BinOp, ast.UnaryOp, ast.BoolOp, ast.Compare, ast.IfExp, ast.Call, ast.Attribute, ast.Subscript, ast.Slice,
    ast.ListComp, ast.JoinedStr, ast.FormattedValue, ast.Constant, ast.Name, ast.List, ast.Tuple, ast.Dict, ast.Set,
    ast.Lambda,
)
OWN_NAMES = set(
    "len range enumerate zip min max sum abs sorted reversed int str bool list tuple dict set frozenset isinstance ord "
    "repr any all divmod Exception ValueError TypeError KeyError IndexError LookupError ZeroDivisionError "
    "ArithmeticError OverflowError RuntimeError NotImplementedError AttributeError StopIteration".split()
)
METHODS = set(
    "append clear copy count endswith extend find get index insert isalnum isalpha isdigit islower isspace isupper "
    "items join keys ljust lower lstrip partition pop remove replace reverse rfind rjust rpartition rsplit rstrip "
    "setdefault split splitlines startswith strip update upper values zfill bit_length".split()
)
VALUES = set("count index title find get join lower upper split strip copy add".split())
DOUBLE = set("__init__ __eq__ __repr__ __str__ __len__".split())
NOT_USED = set("register mro elements open input version_info with_traceback add_note".split())
NOT_NAMES = set(
    "attrgetter breakpoint builtins compile copyright credits delattr dir eval exec exit gc getattr globals hasattr "
    "help id importlib license locals methodcaller os quit setattr super type vars sys __name__".split()
)
NO_WORDS = re.compile(
    r"\b(type|typing|typing_extensions|enum|Enum|IntEnum|StrEnum|Flag|IntFlag|Generic|Protocol|ABC|ABCMeta|namedtuple"
    r"|NamedTuple|TypedDict|TYPE_CHECKING|abstractmethod)\b|dataclass|overload|contextmanager"
)
FILE_NAMES = re.compile(r"[a-z0-9][a-z0-9_]*\.py|__init__\.py|__main__\.py")
PLAIN_NAME = re.compile(r"[A-Za-z][A-Za-z0-9_]*")


def trees():
    """Each file's path and syntax tree."""
    return [(path, ast.parse(path.read_text(encoding="utf-8"))) for path in FILES]


def is_plain(node, functions):
    """Whether this may be given to a name at a file's top."""
    if isinstance(node, (ast.Tuple, ast.List)):
        return all(is_plain(x, functions) for x in node.elts)
    if isinstance(node, ast.Dict):
        return all(is_plain(x, functions) for x in node.keys + node.values)
    if isinstance(node, ast.UnaryOp):
        return isinstance(node.op, ast.USub) and isinstance(node.operand, ast.Constant)
    if isinstance(node, ast.Name):
        return node.id in functions
    return isinstance(node, ast.Constant)


def bound_names(tree):
    """Every name that the file binds anywhere."""
    for node in ast.walk(tree):
        if isinstance(node, (ast.FunctionDef, ast.ClassDef)):
            yield node.name
        elif isinstance(node, ast.arg):
            yield node.arg
        elif isinstance(node, ast.Name) and isinstance(node.ctx, ast.Store):
            yield node.id
        elif isinstance(node, ast.Attribute) and isinstance(node.ctx, ast.Store):
            yield node.attr


class FilesTest(unittest.TestCase):
    def test_there_are_files(self):
        self.assertIn(PACKAGE / "__init__.py", FILES)
        self.assertIn(PACKAGE / "plant.py", FILES)

    def test_nothing_else_lies_in_the_package(self):
        for path in PACKAGE.rglob("*"):
            if "__pycache__" not in path.parts:
                self.assertTrue(path.is_file() and FILE_NAMES.fullmatch(path.name), path)
                self.assertNotIn(path.stem, dir(builtins), path)
                self.assertNotRegex(path.stem, r"^(tests?|testing|test_.*|site|conftest|sitecustomize|usercustomize)$")

    def test_size_and_signs(self):
        for path in FILES:
            text = path.read_bytes().decode("ascii")
            lines = text.split("\n")
            self.assertLessEqual(len(lines), 400, path)
            self.assertTrue(all(" " <= sign <= "~" or sign == "\n" for sign in text), path)
            for number, line in enumerate(lines, start=1):
                self.assertLessEqual(len(line), 120, (path, number))
                self.assertIsNone(NO_WORDS.search(line), (path, number))


class SyntaxTest(unittest.TestCase):
    def test_statements_and_expressions(self):
        for path, tree in trees():
            for node in ast.walk(tree):
                where = (path.name, getattr(node, "lineno", 0), ast.dump(node)[:80])
                if isinstance(node, ast.stmt):
                    self.assertIsInstance(node, STATEMENTS, where)
                if isinstance(node, ast.expr):
                    self.assertIsInstance(node, EXPRESSIONS, where)
                self.assertNotIsInstance(node, (ast.Div, ast.MatMult), where)
                if isinstance(node, ast.Assign):
                    self.assertEqual(len(node.targets), 1, where)
                if isinstance(node, (ast.For, ast.While)):
                    self.assertEqual(node.orelse, [], where)
                if isinstance(node, ast.Constant):
                    self.assertNotIsInstance(node.value, (float, complex, bytes), where)
                if isinstance(node, ast.ListComp):
                    self.assertEqual(len(node.generators), 1, where)
                    self.assertLessEqual(len(node.generators[0].ifs), 1, where)
                if isinstance(node, ast.Compare) and any(isinstance(op, (ast.Is, ast.IsNot)) for op in node.ops):
                    self.assertIn(ast.unparse(node.comparators[-1]), ("None", "True", "False"), where)

    def test_functions(self):
        for path, tree in trees():
            for node in ast.walk(tree):
                if isinstance(node, ast.FunctionDef):
                    self.assertLessEqual(node.end_lineno - node.lineno + 1, 40, (path.name, node.name))
                    self.assertEqual(node.decorator_list, [], node.name)
                    given = node.args
                    self.assertEqual((given.vararg, given.kwarg, given.kwonlyargs, given.posonlyargs),
                                     (None, None, [], []), node.name)

    def test_the_top_of_a_file(self):
        for path, tree in trees():
            functions = set()
            seen = []
            for node in tree.body:
                if isinstance(node, ast.FunctionDef):
                    functions.add(node.name)
                    seen.append(node.name)
                elif isinstance(node, ast.ClassDef):
                    seen.append(node.name)
                elif isinstance(node, ast.ImportFrom):
                    self.assertEqual(node.level, 0)
                    self.assertRegex(node.module, r"^cellline\.[a-z_]+$")
                    self.assertTrue(all(alias.asname is None and alias.name != "*" for alias in node.names))
                    seen.extend(alias.name for alias in node.names)
                elif isinstance(node, ast.Assign):
                    self.assertTrue(is_plain(node.value, functions), (path.name, node.lineno))
                    seen.append(node.targets[0].id)
                else:
                    self.assertIsInstance(node, ast.Expr)
                    self.assertIsInstance(node.value, ast.Constant)
            self.assertEqual(len(seen), len(set(seen)), path.name)


class NamesTest(unittest.TestCase):
    def test_bound_names(self):
        for path, tree in trees():
            for name in bound_names(tree):
                if name not in DOUBLE:
                    self.assertTrue(PLAIN_NAME.fullmatch(name), (path.name, name))
                self.assertNotIn(name, NOT_USED | NOT_NAMES, path.name)
                self.assertNotIn(name, dir(builtins), path.name)

    def test_python_s_own_names(self):
        for path, tree in trees():
            bound = set(bound_names(tree))
            for node in ast.walk(tree):
                if isinstance(node, ast.ImportFrom):
                    bound.update(alias.name for alias in node.names)
            for node in ast.walk(tree):
                if isinstance(node, ast.Name):
                    self.assertIn(node.id, bound | OWN_NAMES, (path.name, node.lineno))

    def test_locals_are_not_called_like_a_class_or_an_import(self):
        for path, tree in trees():
            taken = {node.name for node in tree.body if isinstance(node, ast.ClassDef)}
            for node in tree.body:
                if isinstance(node, ast.ImportFrom):
                    taken.update(alias.name for alias in node.names)
            for node in tree.body:
                if isinstance(node, (ast.FunctionDef, ast.ClassDef)):
                    for inner in node.body:
                        self.assertEqual(taken & set(bound_names(inner)), set(), path.name)

    def test_methods_and_values(self):
        methods, values, used = set(), set(), set()
        for path, tree in trees():
            for node in ast.walk(tree):
                if isinstance(node, ast.ClassDef):
                    own = [inner.name for inner in node.body if isinstance(inner, ast.FunctionDef)]
                    self.assertEqual(len(own), len(set(own)), node.name)
                    self.assertEqual(node.decorator_list, [])
                    self.assertLessEqual(len(node.bases), 1)
                    methods.update(own)
                elif isinstance(node, ast.Attribute) and isinstance(node.ctx, ast.Store):
                    values.add(node.attr)
                elif isinstance(node, ast.Attribute):
                    used.add(node.attr)
        self.assertEqual(methods & values, set())
        self.assertEqual(used - methods - values - METHODS, set())
        own = set()
        for value in ("", 0, [], {}, set(), b"", ()):
            own.update(dir(value))
        self.assertEqual((methods - DOUBLE - METHODS - {"add", "discard"}) & own, set())
        self.assertEqual((values - VALUES) & own, set())


class ImportsTest(unittest.TestCase):
    def test_names_come_from_the_file_that_defines_them(self):
        defined = {}
        for path, tree in trees():
            names = set()
            for node in tree.body:
                if isinstance(node, (ast.FunctionDef, ast.ClassDef)):
                    names.add(node.name)
                elif isinstance(node, ast.Assign):
                    names.add(node.targets[0].id)
            defined["cellline." + path.stem] = names
        for path, tree in trees():
            for node in tree.body:
                if isinstance(node, ast.ImportFrom):
                    for alias in node.names:
                        self.assertIn(alias.name, defined[node.module], path.name)

    def test_no_two_files_draw_from_one_another(self):
        drawn = {}
        for path, tree in trees():
            drawn["cellline." + path.stem] = {node.module for node in tree.body if isinstance(node, ast.ImportFrom)}
        while drawn:
            free = [name for name, needed in drawn.items() if not needed & set(drawn)]
            self.assertNotEqual(free, [], drawn)
            for name in free:
                drawn.pop(name)


if __name__ == "__main__":
    unittest.main()
