"""The form of the package's own files, as far as a walk over them can see it (LANGUAGE.md, L1 to L28)."""

import ast
import builtins
import pathlib
import re
import unittest

PACKAGE = pathlib.Path(__file__).resolve().parent.parent / "reviewrules"

STATEMENTS = (
    ast.Assign, ast.AugAssign, ast.If, ast.While, ast.For, ast.Return, ast.Break, ast.Continue, ast.Pass, ast.Raise,
    ast.Try, ast.Expr, ast.FunctionDef, ast.ClassDef, ast.ImportFrom,
)
EXPRESSIONS = (
    ast.Constant, ast.List, ast.Tuple, ast.Dict, ast.BinOp, ast.UnaryOp, ast.BoolOp, ast.Compare, ast.IfExp, ast.Call,
    ast.Attribute, ast.Subscript, ast.Slice, ast.ListComp, ast.JoinedStr, ast.FormattedValue, ast.Name, ast.Lambda,
)
OPERATORS = (
    ast.Add, ast.Sub, ast.Mult, ast.FloorDiv, ast.Mod, ast.Pow, ast.BitAnd, ast.BitOr, ast.BitXor, ast.LShift, ast.RShift,
)
OWN_NAMES = set(
    "len range enumerate zip min max sum abs sorted reversed int str bool list tuple dict set frozenset isinstance ord "
    "repr any all divmod Exception ValueError TypeError KeyError IndexError LookupError ZeroDivisionError "
    "ArithmeticError OverflowError RuntimeError NotImplementedError AttributeError StopIteration".split()
)
OWN_METHODS = set(
    "append clear copy count endswith extend find get index insert isalnum isalpha isdigit islower isspace isupper "
    "items join keys ljust lower lstrip partition pop remove replace reverse rfind rjust rpartition rsplit rstrip "
    "setdefault split splitlines startswith strip update upper values zfill bit_length".split()
)
TWO_UNDERSCORES = {"__init__", "__eq__", "__repr__", "__str__", "__len__"}
NOT_USED = set(
    "register mro elements open input version_info with_traceback add_note format format_map chr".split()
)
WORDS_NOWHERE = set(
    "type typing typing_extensions enum Enum IntEnum StrEnum Flag IntFlag Generic Protocol ABC ABCMeta namedtuple "
    "NamedTuple TypedDict TYPE_CHECKING abstractmethod".split()
)
WALKED_AT_ONCE = {"zip", "enumerate", "reversed", "range", "items", "keys", "values"}


def sources():
    found = {}
    for path in sorted(PACKAGE.rglob("*.py")):
        found[path.stem] = path.read_text(encoding="utf-8")
    return found


class TestFiles(unittest.TestCase):
    def test_nothing_else_lies_in_the_package(self):
        for path in PACKAGE.iterdir():
            if path.name != "__pycache__":
                self.assertRegex(path.name, r"^([a-z][a-z0-9_]*|__init__|__main__)\.py$")
                self.assertFalse(path.stem.startswith("test") or path.stem in dir(builtins), path.name)

    def test_sizes_and_signs(self):
        for name, source in sources().items():
            lines = source.split("\n")
            with self.subTest(file=name):
                self.assertLessEqual(len(lines), 401)
                self.assertLessEqual(max([len(line) for line in lines]), 120)
                self.assertEqual([sign for sign in source if sign != "\n" and not " " <= sign <= "~"], [])
                for node in ast.walk(ast.parse(source)):
                    if isinstance(node, ast.FunctionDef):
                        self.assertLessEqual(node.end_lineno - node.lineno + 1, 40, node.name)

    def test_words_that_stand_nowhere(self):
        for name, source in sources().items():
            words = set(re.findall(r"\w+", source))
            with self.subTest(file=name):
                self.assertEqual(words & WORDS_NOWHERE, set())
                self.assertIsNone(re.search("dataclass|overload|contextmanager", source))


class TestImports(unittest.TestCase):
    def drawn(self, tree):
        return [node for node in ast.walk(tree) if isinstance(node, (ast.Import, ast.ImportFrom))]

    def test_only_names_of_the_package_from_where_they_are_defined(self):
        trees = {name: ast.parse(source) for name, source in sources().items()}
        for name, tree in trees.items():
            for node in self.drawn(tree):
                with self.subTest(file=name, line=node.lineno):
                    self.assertIn(node, tree.body)
                    self.assertRegex(node.module, r"^reviewrules\.[a-z_]+$")
                    defined = top_names(trees[node.module.split(".")[1]])
                    self.assertEqual([alias.name for alias in node.names if alias.name not in defined], [])
                    self.assertEqual([alias.name for alias in node.names if alias.asname], [])

    def test_no_two_files_draw_from_one_another(self):
        ahead = {}
        for name, source in sources().items():
            ahead[name] = {node.module.split(".")[1] for node in self.drawn(ast.parse(source))}
        while ahead:
            free = [name for name in ahead if not ahead[name] & set(ahead)]
            self.assertTrue(free, f"drawn in a ring: {sorted(ahead)}")
            ahead = {name: ahead[name] for name in ahead if name not in free}


def top_names(tree):
    """What a file's top binds itself, each name as often as it is bound."""
    names = []
    for node in tree.body:
        if isinstance(node, ast.Assign):
            names.extend([target.id for target in node.targets])
        elif isinstance(node, (ast.FunctionDef, ast.ClassDef)):
            names.append(node.name)
    return names


def imported_names(tree):
    return [alias.name for node in tree.body if isinstance(node, ast.ImportFrom) for alias in node.names]


def own_methods():
    found = set()
    for source in sources().values():
        for node in ast.walk(ast.parse(source)):
            if isinstance(node, ast.ClassDef):
                found.update([inner.name for inner in node.body if isinstance(inner, ast.FunctionDef)])
    return found


class TestCode(unittest.TestCase):
    looked_at = "the top of a file"

    def each_node(self):
        for name, source in sources().items():
            tree = ast.parse(source)
            for node in ast.walk(tree):
                # A failure tells the place that was looked at last.
                self.looked_at = f"{name}.py, line {getattr(node, 'lineno', 0)}"
                yield tree, node

    def _formatMessage(self, message, standard):
        return super()._formatMessage(message, f"{standard} ({self.looked_at})")

    def test_statements_expressions_operators(self):
        for tree, node in self.each_node():
            if isinstance(node, ast.stmt):
                self.assertIsInstance(node, STATEMENTS)
            elif isinstance(node, ast.expr):
                self.assertIsInstance(node, EXPRESSIONS)
            elif isinstance(node, ast.operator):
                self.assertIsInstance(node, OPERATORS)

    def test_statements_in_their_narrow_form(self):
        for tree, node in self.each_node():
            if isinstance(node, ast.Assign):
                self.assertEqual(len(node.targets), 1)
                self.assertIsInstance(node.targets[0], (ast.Name, ast.Attribute, ast.Subscript))
            elif isinstance(node, (ast.For, ast.While)):
                self.assertEqual(node.orelse, [])
            elif isinstance(node, ast.Try):
                self.assertEqual(node.finalbody, [])
                for handler in node.handlers:
                    self.assertIsInstance(handler.type, ast.Name)
                    self.assertNotIn(handler.type.id, ("Exception", "TypeError"))
            elif isinstance(node, ast.Expr) and not isinstance(node.value, ast.Call):
                self.assertIsInstance(node.value.value, str)
            elif isinstance(node, ast.Raise):
                self.assertIsInstance(node.exc, ast.Call)

    def test_expressions_in_their_narrow_form(self):
        for tree, node in self.each_node():
            if isinstance(node, ast.Constant):
                self.assertIn(type(node.value), (int, str, bool, type(None)))
                self.assertNotIn("%", str(node.value))
            elif isinstance(node, ast.FormattedValue):
                self.assertIsInstance(node.value, ast.Name)
                self.assertIsNone(node.format_spec)
            elif isinstance(node, ast.ListComp):
                self.assertEqual(len(node.generators), 1)
                self.assertLessEqual(len(node.generators[0].ifs), 1)
            elif isinstance(node, ast.Compare) and any(isinstance(one, (ast.Is, ast.IsNot)) for one in node.ops):
                self.assertIsInstance(node.comparators[0], ast.Constant)

    def test_functions_and_classes(self):
        for tree, node in self.each_node():
            if isinstance(node, ast.FunctionDef):
                given = node.args
                self.assertEqual((given.vararg, given.kwarg, given.kwonlyargs, given.posonlyargs), (None, None, [], []))
                self.assertEqual((node.decorator_list, node.returns), ([], None))
                self.assertEqual([one.arg for one in given.args if one.annotation], [])
            elif isinstance(node, ast.ClassDef):
                self.assertIn(node, tree.body)
                self.assertLessEqual(len(node.bases), 1)
                self.assertEqual((node.decorator_list, node.keywords), ([], []))
                for inner in node.body:
                    self.assertIsInstance(inner, (ast.FunctionDef, ast.Expr, ast.Pass))

    def test_the_top_of_a_file(self):
        for name, source in sources().items():
            tree = ast.parse(source)
            names = top_names(tree) + imported_names(tree)
            with self.subTest(file=name):
                self.assertEqual(len(names), len(set(names)))
                for node in tree.body:
                    self.assertIsInstance(node, (ast.Expr, ast.ImportFrom, ast.FunctionDef, ast.ClassDef, ast.Assign))
                    if isinstance(node, ast.Assign):
                        self.check_plain(node.value)

    def check_plain(self, value):
        allowed = (ast.Constant, ast.List, ast.Tuple, ast.Dict, ast.Name, ast.Load, ast.UnaryOp, ast.USub)
        for inner in ast.walk(value):
            self.assertIsInstance(inner, allowed)
            if inner is not value:
                self.assertNotIsInstance(inner, (ast.List, ast.Dict))


class TestNames(unittest.TestCase):
    def test_names_are_plain_and_known(self):
        for file_name, source in sources().items():
            tree = ast.parse(source)
            bound = set(top_names(tree)) | set(imported_names(tree))
            locals_here = set()
            used = set()
            for node in ast.walk(tree):
                if isinstance(node, ast.arg):
                    locals_here.add(node.arg)
                elif isinstance(node, ast.ExceptHandler) and node.name:
                    locals_here.add(node.name)
                elif isinstance(node, ast.Name):
                    (used if isinstance(node.ctx, ast.Load) else locals_here).add(node.id)
            inner = locals_here - set(top_names(tree))
            with self.subTest(file=file_name):
                self.assertEqual(used - bound - locals_here - OWN_NAMES, set())
                self.assertEqual((bound | locals_here) & (set(dir(builtins)) | NOT_USED), set())
                self.assertEqual(inner & set(imported_names(tree)), set())
                self.assertEqual([name for name in bound | locals_here if not re.match("^[A-Za-z]", name)], [])

    def test_methods_and_values(self):
        methods = own_methods()
        self.assertEqual([name for name in methods if name.startswith("_") and name not in TWO_UNDERSCORES], [])
        values = set()
        for source in sources().values():
            tree = ast.parse(source)
            called = [node.func for node in ast.walk(tree) if isinstance(node, ast.Call)]
            for node in ast.walk(tree):
                if isinstance(node, ast.Attribute) and node in called:
                    self.assertIn(node.attr, methods | OWN_METHODS)
                elif isinstance(node, ast.Attribute):
                    values.add(node.attr)
        self.assertEqual(values & methods, set())
        self.assertEqual((values | methods) & NOT_USED, set())
        taken = set(dir(str) + dir(int) + dir(list) + dir(dict) + dir(set) + dir(bytes))
        self.assertEqual((values | methods) & (taken - TWO_UNDERSCORES), set())

    def test_what_is_walked_at_once_is_not_kept(self):
        for file_name, source in sources().items():
            for node in ast.walk(ast.parse(source)):
                if isinstance(node, (ast.Assign, ast.Return)) and isinstance(node.value, ast.Call):
                    made_by = getattr(node.value.func, "id", getattr(node.value.func, "attr", ""))
                    with self.subTest(file=file_name, line=node.lineno):
                        self.assertNotIn(made_by, WALKED_AT_ONCE)


if __name__ == "__main__":
    unittest.main()
