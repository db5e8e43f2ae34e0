"""The package's files held against point 1 (no clock, chance or files) and the rules that a look can tell."""

import ast
import builtins
import re
import unittest
from pathlib import Path

FOLDER = Path(__file__).resolve().parent.parent / "parcelwall"

OWN_NAMES = """
len range enumerate zip min max sum abs sorted reversed int str bool list tuple dict set frozenset isinstance ord
repr any all divmod Exception ValueError TypeError KeyError IndexError LookupError ZeroDivisionError ArithmeticError
OverflowError RuntimeError NotImplementedError AttributeError StopIteration
""".split()

OWN_METHODS = """
append clear copy count endswith extend find get index insert isalnum isalpha isdigit islower isspace isupper items
join keys ljust lower lstrip partition pop remove replace reverse rfind rjust rpartition rsplit rstrip setdefault split
splitlines startswith strip update upper values zfill bit_length __init__
""".split()

BANNED_WORDS = """
type typing typing_extensions enum Enum IntEnum StrEnum Flag IntFlag Generic Protocol ABC ABCMeta namedtuple NamedTuple
TypedDict TYPE_CHECKING abstractmethod
""".split()

ALLOWED_NODES = """
Module FunctionDef ClassDef Return Assign AugAssign For While If Raise Try Expr Pass Break Continue ImportFrom alias
ExceptHandler arguments arg keyword BoolOp BinOp UnaryOp Lambda IfExp Dict Set ListComp comprehension Compare Call
JoinedStr FormattedValue Constant Attribute Subscript Name List Tuple Slice Load Store And Or Add Sub Mult FloorDiv Mod
Pow LShift RShift BitOr BitXor BitAnd Invert Not UAdd USub Eq NotEq Lt LtE Gt GtE Is IsNot In NotIn
""".split()


def files():
    return sorted(FOLDER.rglob("*.py"))


def trees():
    return [(path, ast.parse(path.read_text(encoding="utf-8"))) for path in files()]


def bound_names(tree):
    """Every name that a file itself gives a meaning to."""
    names = []
    for node in ast.walk(tree):
        if isinstance(node, (ast.FunctionDef, ast.ClassDef)):
            names.append(node.name)
        if isinstance(node, ast.arg):
            names.append(node.arg)
        if isinstance(node, ast.alias):
            names.append(node.asname or node.name)
        if isinstance(node, ast.Name) and isinstance(node.ctx, ast.Store):
            names.append(node.id)
        if isinstance(node, ast.ExceptHandler) and node.name:
            names.append(node.name)
    return names


class Files(unittest.TestCase):
    def test_only_plain_files_lie_in_the_package(self):
        found = [path for path in FOLDER.rglob("*") if "__pycache__" not in path.parts]
        for path in found:
            with self.subTest(path=path.name):
                self.assertRegex(path.name, r"^[a-z0-9_]+\.py$")
        self.assertIn(FOLDER / "__init__.py", found)

    def test_size_and_signs(self):
        for path in files():
            text = path.read_text(encoding="utf-8")
            with self.subTest(path=path.name):
                self.assertLessEqual(len(text.split("\n")), 400)
                self.assertLessEqual(max(len(line) for line in text.split("\n")), 120)
                self.assertRegex(text, r"\A[ -~\n]*\Z")

    def test_words_that_stand_nowhere(self):
        for path in files():
            text = path.read_text(encoding="utf-8")
            with self.subTest(path=path.name):
                self.assertEqual([word for word in re.findall(r"\w+", text) if word in BANNED_WORDS], [])
                self.assertIsNone(re.search("dataclass|overload|contextmanager", text))


class Code(unittest.TestCase):
    def test_only_the_package_is_imported(self):
        for path, tree in trees():
            for node in ast.walk(tree):
                if isinstance(node, ast.ImportFrom):
                    with self.subTest(path=path.name, line=node.lineno):
                        self.assertEqual(node.level, 0)
                        self.assertRegex(node.module, r"^parcelwall\.")
                        self.assertNotIn("*", [name.name for name in node.names])

    def test_only_the_small_part_of_the_language(self):
        for path, tree in trees():
            for node in ast.walk(tree):
                with self.subTest(path=path.name, line=getattr(node, "lineno", 0)):
                    self.assertIn(node.__class__.__name__, ALLOWED_NODES)
                    self.assertFalse(getattr(node, "decorator_list", []))

    def test_only_own_names_and_the_allowed_ones_of_python(self):
        for path, tree in trees():
            bound = bound_names(tree)
            for node in ast.walk(tree):
                if isinstance(node, ast.Name):
                    with self.subTest(path=path.name, line=node.lineno):
                        self.assertIn(node.id, bound + OWN_NAMES)

    def test_own_names_are_plain_and_hide_none_of_pythons(self):
        for path, tree in trees():
            for name in bound_names(tree):
                with self.subTest(path=path.name, name=name):
                    if name != "__init__":
                        self.assertRegex(name, r"^[A-Za-z][A-Za-z0-9_]*$")
                        self.assertNotIn(name, dir(builtins))

    def test_only_own_methods_and_the_allowed_ones_of_python(self):
        methods, values = [], []
        for path, tree in trees():
            for node in ast.walk(tree):
                if isinstance(node, ast.ClassDef):
                    methods.extend(part.name for part in node.body if isinstance(part, ast.FunctionDef))
                if isinstance(node, ast.Attribute) and isinstance(node.ctx, ast.Store):
                    values.append(node.attr)
        for path, tree in trees():
            for node in ast.walk(tree):
                if isinstance(node, ast.Attribute):
                    with self.subTest(path=path.name, line=node.lineno):
                        self.assertIn(node.attr, methods + values + OWN_METHODS)
        self.assertEqual(set(methods) & set(values), set())

    def test_no_error_tells_a_number_that_was_handed_in(self):
        # Python writes no number of very many figures: its own error would hide the refusal.
        for path, tree in trees():
            for node in ast.walk(tree):
                if isinstance(node, ast.Raise):
                    for part in ast.walk(node):
                        if isinstance(part, ast.FormattedValue):
                            with self.subTest(path=path.name, line=node.lineno):
                                self.assertRegex(ast.unparse(part.value), r"^[A-Z_]+$")

    def test_functions_are_small(self):
        for path, tree in trees():
            for node in ast.walk(tree):
                if isinstance(node, ast.FunctionDef):
                    with self.subTest(path=path.name, name=node.name):
                        self.assertLessEqual(node.end_lineno - node.lineno + 1, 40)

    def test_no_percent_sign_within_a_text_and_no_float(self):
        for path, tree in trees():
            for node in ast.walk(tree):
                if isinstance(node, ast.Constant):
                    with self.subTest(path=path.name, line=node.lineno):
                        self.assertIn(node.value.__class__, (int, str, bool, None.__class__))
                        self.assertNotIn("%", str(node.value))


if __name__ == "__main__":
    unittest.main()
