"""The rules of LANGUAGE.md that can be read off the files without following the program: L1, L2, L8, L10, L14, L17."""

import ast
import builtins
import pathlib
import re
import unittest

PACKAGE = pathlib.Path(__file__).resolve().parent.parent / "sleepmany"

BUILTINS = set(dir(builtins))
ALLOWED = set(
    "len range enumerate zip min max sum abs sorted reversed int str bool bytes list tuple dict set frozenset "
    "isinstance ord repr any all divmod iter next super property staticmethod classmethod Exception ValueError "
    "TypeError KeyError IndexError LookupError ZeroDivisionError ArithmeticError OverflowError RuntimeError "
    "NotImplementedError AttributeError StopIteration NotImplemented".split()
)
BARRED = (
    "type typing typing_extensions enum Enum IntEnum StrEnum Flag IntFlag Generic Protocol ABC ABCMeta namedtuple "
    "NamedTuple TypedDict TYPE_CHECKING abstractmethod"
).split()


def sources():
    return [(path.name, path.read_text("utf-8")) for path in sorted(PACKAGE.rglob("*.py"))]


class LanguageTest(unittest.TestCase):
    def test_l1_nothing_but_plain_files(self):
        for path in PACKAGE.rglob("*"):
            if "__pycache__" not in path.parts and path.is_file():
                self.assertRegex(path.name, r"\A[a-z0-9_]+\.py\Z")

    def test_l2_imports_are_of_the_package(self):
        for name, text in sources():
            for node in ast.walk(ast.parse(text)):
                self.assertNotIsInstance(node, ast.Import, name)
                if isinstance(node, ast.ImportFrom):
                    self.assertEqual(node.level, 0, name)
                    file = node.module.removeprefix("sleepmany.") + ".py"
                    self.assertTrue((PACKAGE / file).is_file(), name)

    def test_l8_no_other_builtins(self):
        for name, text in sources():
            for node in ast.walk(ast.parse(text)):
                if isinstance(node, ast.Name) and node.id in BUILTINS:
                    self.assertIn(node.id, ALLOWED, name)

    def test_l10_sizes(self):
        for name, text in sources():
            lines = text.splitlines()
            self.assertLessEqual(len(lines), 399, name)
            self.assertLessEqual(max(len(line) for line in lines), 120, name)
            for node in ast.walk(ast.parse(text)):
                if isinstance(node, ast.FunctionDef):
                    self.assertLessEqual(node.end_lineno - node.lineno + 1, 40, name + " " + node.name)

    def test_l14_signs(self):
        for name, text in sources():
            self.assertRegex(text, r"\A[ -~\n]*\Z", name)

    def test_l17_barred_words(self):
        for name, text in sources():
            self.assertEqual([word for word in re.findall(r"\w+", text) if word in BARRED], [], name)
            self.assertNotRegex(text, "dataclass|overload|contextmanager", name)


if __name__ == "__main__":
    unittest.main()
