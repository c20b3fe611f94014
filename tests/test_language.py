"""Those rules of the language that can be seen file by file."""

import ast
import builtins
import pathlib
import re
import unittest

PACKAGE = pathlib.Path(__file__).resolve().parent.parent / "ditchturn"
ALLOWED = set(
    "len range enumerate zip min max sum abs sorted reversed int str bool bytes list tuple dict set"
    " frozenset isinstance ord repr any all divmod iter next super property staticmethod classmethod"
    " Exception ValueError TypeError KeyError IndexError LookupError ZeroDivisionError ArithmeticError"
    " OverflowError RuntimeError NotImplementedError AttributeError StopIteration NotImplemented".split()
)
BARRED = re.compile(
    r"\b(type|typing|typing_extensions|enum|Enum|IntEnum|StrEnum|Flag|IntFlag|Generic|Protocol|ABC"
    r"|ABCMeta|namedtuple|NamedTuple|TypedDict|TYPE_CHECKING|abstractmethod)\b"
    r"|dataclass|overload|contextmanager"
)
BUILTIN_METHODS = set(
    "append clear copy count endswith extend find get index insert isalnum isalpha isdigit islower isspace"
    " isupper items join keys ljust lower lstrip partition pop remove replace reverse rfind rjust rpartition"
    " rsplit rstrip setdefault split splitlines startswith strip update upper values zfill bit_length"
    " removeprefix removesuffix".split()
)
DUNDERS = re.compile(r"__[a-z]+__")


def bound_names(tree):
    """Every name that a file binds or uses."""
    for node in ast.walk(tree):
        if isinstance(node, ast.Name):
            yield node.id
        elif isinstance(node, ast.arg):
            yield node.arg
        elif isinstance(node, (ast.FunctionDef, ast.ClassDef)):
            yield node.name
        elif isinstance(node, ast.Attribute):
            yield node.attr


def defined(tree):
    """The names that a file itself binds at module level."""
    for node in tree.body:
        if isinstance(node, (ast.FunctionDef, ast.ClassDef)):
            yield node.name
        elif isinstance(node, ast.Assign):
            yield from (target.id for target in node.targets)


class LanguageTest(unittest.TestCase):
    def setUp(self):
        self.files = sorted(PACKAGE.glob("*.py"))
        self.texts = {file.name: file.read_text(encoding="utf-8") for file in self.files}
        self.trees = {name: ast.parse(text) for name, text in self.texts.items()}

    def nodes(self, *kinds):
        """Each node of these kinds, with the name of its file."""
        for name, tree in self.trees.items():
            for node in ast.walk(tree):
                if isinstance(node, kinds):
                    yield name, node

    def test_the_folder_holds_plain_python_files_only(self):
        others = [path.name for path in PACKAGE.iterdir() if path.name != "__pycache__"]
        self.assertEqual(sorted(others), sorted(self.texts))
        self.assertIn("__init__.py", self.texts)
        for name in self.texts:
            self.assertRegex(name, r"\A(__init__|[a-z][a-z0-9_]*)\.py\Z")

    def test_characters_and_sizes(self):
        for name, text in self.texts.items():
            with self.subTest(name=name):
                self.assertRegex(text, r"\A[ -~\n]*\Z")
                self.assertLessEqual(len(text.splitlines()), 400)
                self.assertLessEqual(max(len(line) for line in text.splitlines()), 120)
        for name, node in self.nodes(ast.FunctionDef):
            self.assertLessEqual(node.end_lineno - node.lineno + 1, 40, (name, node.name))

    def test_words_that_stand_nowhere(self):
        for name, text in self.texts.items():
            self.assertIsNone(BARRED.search(text), name)

    def test_imports(self):
        for name, node in self.nodes(ast.Import, ast.ImportFrom):
            self.assertIsInstance(node, ast.ImportFrom, name)
            self.assertEqual(node.level, 0, name)
            self.assertRegex(node.module, r"\Aditchturn\.[a-z_]+\Z", name)
            self.assertTrue((PACKAGE / (node.module.split(".")[1] + ".py")).is_file(), name)

    def test_no_two_files_import_from_each_other(self):
        above = {name: set() for name in self.trees}
        for name, node in self.nodes(ast.ImportFrom):
            above[name].add(node.module.split(".")[1] + ".py")
        while above:
            free = [name for name in above if not above[name] & set(above)]
            self.assertNotEqual(free, [], above)
            for name in free:
                del above[name]

    def test_a_name_is_imported_from_the_file_that_defines_it(self):
        for name, node in self.nodes(ast.ImportFrom):
            tree = self.trees[node.module.split(".")[1] + ".py"]
            for word in node.names:
                self.assertIsNone(word.asname, name)
                self.assertIn(word.name, list(defined(tree)), name)

    def test_imported_names_are_used_and_not_bound_again(self):
        for name, tree in self.trees.items():
            words = [word.name for node in tree.body if isinstance(node, ast.ImportFrom) for word in node.names]
            nodes = list(ast.walk(tree))
            used = {node.id for node in nodes if isinstance(node, ast.Name) and isinstance(node.ctx, ast.Load)}
            bound = {node.id for node in nodes if isinstance(node, ast.Name) and isinstance(node.ctx, ast.Store)}
            bound |= {node.arg for node in nodes if isinstance(node, ast.arg)} | set(defined(tree))
            self.assertEqual(set(words) - used, set(), name)
            self.assertEqual(set(words) & bound, set(), name)
            self.assertEqual(len(set(words)), len(words), name)

    def test_no_name_is_both_method_and_attribute(self):
        methods, kept = set(), set()
        for name, node in self.nodes(ast.ClassDef):
            methods |= {row.name for row in node.body if isinstance(row, ast.FunctionDef)}
        for name, node in self.nodes(ast.Attribute):
            if isinstance(node.ctx, ast.Store):
                kept.add(node.attr)
        self.assertEqual(methods & kept, set())
        for name, node in self.nodes(ast.Attribute):
            if isinstance(node.ctx, ast.Load):
                self.assertIn(node.attr, methods | kept | BUILTIN_METHODS | {"__init__"}, (name, node.lineno))

    def test_tables_hold_functions_of_their_own_file(self):
        for name, tree in self.trees.items():
            for node in tree.body:
                if isinstance(node, ast.Assign):
                    words = {word.id for word in ast.walk(node.value) if isinstance(word, ast.Name)}
                    self.assertLessEqual(words, set(defined(tree)), (name, node.lineno))

    def test_names(self):
        for name, tree in self.trees.items():
            for word in bound_names(tree):
                self.assertTrue(DUNDERS.fullmatch(word) or not word.startswith("_"), (name, word))
                if hasattr(builtins, word) and not DUNDERS.fullmatch(word):
                    self.assertIn(word, ALLOWED, name)

    def test_statements(self):
        barred = (ast.Global, ast.AsyncFunctionDef, ast.AsyncFor, ast.AsyncWith, ast.Await)
        self.assertEqual(list(self.nodes(*barred)), [])
        for name, node in self.nodes(ast.Compare):
            for sign, side in zip(node.ops, node.comparators):
                if isinstance(sign, (ast.Is, ast.IsNot)):
                    self.assertIsInstance(side, ast.Constant, (name, node.lineno))

    def test_values(self):
        for name, node in self.nodes(ast.Constant):
            self.assertNotIsInstance(node.value, (float, complex), (name, node.lineno))
            if isinstance(node.value, str):
                self.assertNotIn("%", node.value, (name, node.lineno))
        for name, node in self.nodes(ast.BinOp, ast.AugAssign):
            self.assertNotIsInstance(node.op, ast.Div, (name, node.lineno))


if __name__ == "__main__":
    unittest.main()
