"""The form of the package's files: those rules of its language that a plain reading of the files can see."""

import ast
import builtins
import pathlib
import re
import unittest

PACKAGE = pathlib.Path(__file__).resolve().parent.parent / "countworks"
FILES = sorted(PACKAGE.glob("*.py"))

BUILTINS = set(
    "len range enumerate zip min max sum abs sorted reversed int str bool list tuple dict set isinstance ord repr any "
    "all divmod iter next super ValueError Exception KeyError".split()
)
METHODS = set(
    "append clear copy count endswith extend find get index insert isalnum isalpha isdigit islower isspace isupper "
    "items join keys ljust lower lstrip partition pop remove replace reverse rfind rjust rpartition rsplit rstrip "
    "setdefault split splitlines startswith strip update upper values zfill bit_length add discard sort __init__".split()
)
BARRED_WORDS = set(
    "type typing typing_extensions enum Enum IntEnum StrEnum Flag IntFlag Generic Protocol ABC ABCMeta namedtuple "
    "NamedTuple TypedDict TYPE_CHECKING abstractmethod".split()
)
BARRED_NAMES = set("register mro elements open input version_info with_traceback add_note chr frozenset".split())
BARRED_NODES = (
    ast.Global, ast.AsyncFunctionDef, ast.AsyncFor, ast.AsyncWith, ast.Await, ast.Import, ast.Div, ast.MatMult,
)


def trees():
    for path in FILES:
        yield path.name, ast.parse(path.read_text())


def own_names():
    """What the package's files define, as functions, classes and values of modules."""
    found = set()
    for _, tree in trees():
        for node in ast.walk(tree):
            if isinstance(node, (ast.FunctionDef, ast.ClassDef)):
                found.add(node.name)
            if isinstance(node, ast.Attribute) and isinstance(node.ctx, ast.Store):
                found.add(node.attr)
    return found


def used_names(tree):
    """All names that stand in a file as such, not in strings and comments."""
    found = set()
    for node in ast.walk(tree):
        for field in ("id", "attr", "arg", "name", "asname"):
            if isinstance(getattr(node, field, None), str):
                found.add(getattr(node, field))
    return found


def plain_value(node, functions):
    """Whether what is assigned at module level is written out, or made of functions defined above."""
    if isinstance(node, ast.Name):
        return node.id in functions
    if isinstance(node, ast.Dict):
        inner = (ast.Dict, ast.List)
        return all(plain_value(part, functions) and not isinstance(part, inner) for part in node.keys + node.values)
    ast.literal_eval(node)
    return True


class FormTest(unittest.TestCase):
    def test_files(self):
        self.assertIn("__init__.py", [path.name for path in FILES])
        for path in PACKAGE.iterdir():
            if path.name != "__pycache__":
                self.assertRegex(path.name, r"^[a-z0-9_]+\.py$")

    def test_lines_and_signs(self):
        for path in FILES:
            text = path.read_text()
            lines = text.split("\n")
            self.assertLessEqual(len(lines), 400, path.name)
            self.assertLessEqual(max(len(line) for line in lines), 120, path.name)
            self.assertRegex(text, r"^[ -~\n]*\Z", path.name)

    def test_functions_are_short(self):
        for file, tree in trees():
            for node in ast.walk(tree):
                if isinstance(node, ast.FunctionDef):
                    self.assertLessEqual(node.end_lineno - node.lineno + 1, 40, (file, node.name))

    def test_imports_are_of_the_package(self):
        for file, tree in trees():
            for node in ast.walk(tree):
                if isinstance(node, ast.ImportFrom):
                    self.assertIn(node, tree.body, file)
                    self.assertEqual(node.level, 0, file)
                    self.assertTrue(node.module.startswith("countworks."), (file, node.module))
                    self.assertTrue((PACKAGE / (node.module.split(".")[1] + ".py")).exists(), (file, node.module))

    def test_barred_words(self):
        for path in FILES:
            words = set(re.findall(r"\w+", path.read_text()))
            self.assertEqual(words & BARRED_WORDS, set(), path.name)
        for file, tree in trees():
            self.assertEqual(used_names(tree) & BARRED_NAMES, set(), file)

    def test_numbers_and_strings(self):
        for file, tree in trees():
            for node in ast.walk(tree):
                if isinstance(node, ast.Constant) and isinstance(node.value, (str, bytes)):
                    self.assertNotIn("%", str(node.value), (file, node.lineno))
                if isinstance(node, ast.BinOp) and isinstance(node.op, ast.Pow):
                    self.assertIn(getattr(node.right, "value", None), range(65), (file, node.lineno))

    def test_sets_are_not_iterated(self):
        for file, tree in trees():
            for node in ast.walk(tree):
                if isinstance(node, (ast.For, ast.comprehension)):
                    self.assertNotIsInstance(node.iter, (ast.Set, ast.SetComp), file)
                    self.assertNotEqual(getattr(getattr(node.iter, "func", None), "id", None), "set", file)

    def test_barred_statements(self):
        for file, tree in trees():
            for node in ast.walk(tree):
                self.assertNotIsInstance(node, BARRED_NODES, (file, getattr(node, "lineno", 0)))
                if isinstance(node, ast.Constant):
                    self.assertNotIsInstance(node.value, float, (file, node.lineno))
                if isinstance(node, (ast.FunctionDef, ast.ClassDef)):
                    self.assertEqual(node.decorator_list, [], (file, node.name))

    def test_names_are_plain(self):
        for file, tree in trees():
            for node in ast.walk(tree):
                if isinstance(node, (ast.FunctionDef, ast.ClassDef)) and node.name != "__init__":
                    self.assertRegex(node.name, r"^[A-Za-z]\w*$", file)
                if isinstance(node, ast.Name) and isinstance(node.ctx, ast.Store):
                    self.assertRegex(node.id, r"^[A-Za-z]\w*$", file)
                    self.assertFalse(hasattr(builtins, node.id), (file, node.id))
                if isinstance(node, ast.arg):
                    self.assertRegex(node.arg, r"^[A-Za-z]\w*$", file)
                    self.assertFalse(hasattr(builtins, node.arg), (file, node.arg))

    def test_builtins_and_methods(self):
        own = own_names()
        for file, tree in trees():
            for node in ast.walk(tree):
                if isinstance(node, ast.Name) and hasattr(builtins, node.id):
                    self.assertIn(node.id, BUILTINS, (file, node.lineno))
                if isinstance(node, ast.Attribute):
                    self.assertIn(node.attr, METHODS | own, (file, node.lineno))

    def test_no_state_at_module_level(self):
        allowed = (ast.ImportFrom, ast.FunctionDef, ast.ClassDef, ast.Assign, ast.Expr)
        for file, tree in trees():
            bound = []
            for at, node in enumerate(tree.body):
                self.assertIsInstance(node, allowed, (file, node.lineno))
                if isinstance(node, ast.Expr):
                    self.assertEqual(at, 0, (file, node.lineno))
                if isinstance(node, ast.ImportFrom):
                    bound += [alias.asname or alias.name for alias in node.names]
                if isinstance(node, ast.Assign):
                    functions = [one.name for one in tree.body[:at] if isinstance(one, ast.FunctionDef)]
                    self.assertTrue(plain_value(node.value, functions), (file, node.lineno))
                    bound += [target.id for target in node.targets]
                if isinstance(node, (ast.FunctionDef, ast.ClassDef)):
                    bound.append(node.name)
            self.assertEqual(len(bound), len(set(bound)), file)


if __name__ == "__main__":
    unittest.main()
