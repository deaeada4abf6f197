"""The rules of LANGUAGE.md that can be read off the files without following the program.

Where a rule allows more than is wanted here, its test is the narrower one. The rules that stand in no test's name were
checked by reading.
"""

import ast
import builtins
import io
import pathlib
import re
import tokenize
import unittest

PACKAGE = pathlib.Path(__file__).resolve().parent.parent / "sleepmany"

BUILTINS = set(dir(builtins))
ALLOWED = set(
    "len range enumerate zip min max sum abs sorted reversed int str bool bytes list tuple dict set frozenset "
    "isinstance ord repr any all divmod iter next super property staticmethod classmethod Exception ValueError "
    "TypeError KeyError IndexError LookupError ZeroDivisionError ArithmeticError OverflowError RuntimeError "
    "NotImplementedError AttributeError StopIteration NotImplemented".split()
)
BARRED = (
    "type typing typing_extensions enum Enum IntEnum StrEnum Flag IntFlag Generic Protocol ABC ABCMeta namedtuple "
    "NamedTuple TypedDict TYPE_CHECKING abstractmethod"
).split()
METHODS = set(
    "append clear copy count endswith extend find get index insert isalnum isalpha isdigit islower isspace isupper "
    "items join keys ljust lower lstrip partition pop remove replace reverse rfind rjust rpartition rsplit rstrip "
    "setdefault split splitlines startswith strip update upper values zfill bit_length".split()
)
MODULE_LEVEL = (ast.ImportFrom, ast.FunctionDef, ast.ClassDef, ast.Assign)
NOT_USED = (
    ast.Global, ast.AsyncFunctionDef, ast.Await, ast.Div, ast.GeneratorExp, ast.Yield, ast.YieldFrom, ast.Lambda,
    ast.Nonlocal,
)


def sources():
    return [(path.name, path.read_text("utf-8")) for path in sorted(PACKAGE.rglob("*.py"))]


def nodes(*kinds):
    """Each part of the code that is one of these, with the file in which it stands."""
    for name, text in sources():
        for node in ast.walk(ast.parse(text)):
            if isinstance(node, kinds):
                yield f"{name}:{getattr(node, 'lineno', 0)}", node


def imports_of(tree):
    return [(part.module, one.name) for part in tree.body if isinstance(part, ast.ImportFrom) for one in part.names]


def bound_in(function):
    """The names of a function's parameters and of all that it assigns."""
    for node in ast.walk(function):
        if isinstance(node, ast.arg):
            yield node.arg
        elif isinstance(node, ast.Name) and isinstance(node.ctx, ast.Store):
            yield node.id
        elif isinstance(node, ast.ExceptHandler) and node.name:
            yield node.name


def own_methods():
    """The names of all methods that the package defines."""
    parts = [part for place, owner in nodes(ast.ClassDef) for part in owner.body]
    return {part.name for part in parts if isinstance(part, ast.FunctionDef)}


class LanguageTest(unittest.TestCase):
    def test_l1_nothing_but_plain_files(self):
        for path in PACKAGE.rglob("*"):
            if "__pycache__" not in path.parts and path.is_file():
                self.assertRegex(path.name, r"\A[a-z0-9_]+\.py\Z")

    def test_l2_imports_are_of_the_package(self):
        for name, text in sources():
            for node in ast.walk(ast.parse(text)):
                self.assertNotIsInstance(node, ast.Import, name)
                if isinstance(node, ast.ImportFrom):
                    self.assertEqual(node.level, 0, name)
                    self.assertEqual([one.asname for one in node.names], [None] * len(node.names), name)
                    file = node.module.removeprefix("sleepmany.") + ".py"
                    self.assertTrue((PACKAGE / file).is_file(), name)

    def test_l3_module_level(self):
        for name, text in sources():
            for part in ast.parse(text).body[1:]:
                self.assertIsInstance(part, MODULE_LEVEL, name)
                if isinstance(part, ast.Assign):
                    self.assertEqual([type(target) for target in part.targets], [ast.Name], name)

    def test_l4_l6_l7_l23_what_is_not_used(self):
        self.assertEqual([(place, node) for place, node in nodes(*NOT_USED)], [])
        for place, node in nodes(ast.Constant):
            self.assertIn(type(node.value), (int, str, bool, type(None)), place)
        for place, node in nodes(ast.FunctionDef):
            self.assertEqual([node.decorator_list, node.args.posonlyargs], [[], []], place)

    def test_l8_no_other_builtins(self):
        for place, node in nodes(ast.Name):
            if node.id in BUILTINS:
                self.assertIn(node.id, ALLOWED, place)

    def test_l10_sizes(self):
        for name, text in sources():
            lines = text.splitlines()
            self.assertLessEqual(len(lines), 399, name)
            self.assertLessEqual(max(len(line) for line in lines), 120, name)
        for place, node in nodes(ast.FunctionDef):
            self.assertLessEqual(node.end_lineno - node.lineno + 1, 40, place)

    def test_l12_names(self):
        for place, node in nodes(ast.Name, ast.arg, ast.Attribute):
            name = getattr(node, "id", getattr(node, "arg", getattr(node, "attr", None)))
            self.assertRegex(name, r"\A([A-Za-z][A-Za-z0-9_]*|__init__)\Z", place)

    def test_l14_signs(self):
        for name, text in sources():
            self.assertRegex(text, r"\A[ -~\n]*\Z", name)

    def test_l15_one_binding_for_each_name(self):
        for name, text in sources():
            tree = ast.parse(text)
            imported = [own for module, own in imports_of(tree)]
            own = [part.name for part in tree.body if isinstance(part, (ast.FunctionDef, ast.ClassDef))]
            values = [part.targets[0].id for part in tree.body if isinstance(part, ast.Assign)]
            bound = imported + own + values
            self.assertEqual(len(set(bound)), len(bound), name)
            self.assertEqual(set(bound) & BUILTINS, set(), name)
            for node in ast.walk(tree):
                if isinstance(node, ast.FunctionDef):
                    self.assertEqual(set(bound_in(node)) & (set(bound) | BUILTINS), set(), name + " " + node.name)

    def test_l16_imports_name_the_file_that_defines(self):
        trees = {"sleepmany." + name.removesuffix(".py"): ast.parse(text) for name, text in sources()}
        for name, tree in trees.items():
            for module, own in imports_of(tree):
                defined = [part.name for part in trees[module].body if isinstance(part, (ast.FunctionDef, ast.ClassDef))]
                defined += [part.targets[0].id for part in trees[module].body if isinstance(part, ast.Assign)]
                self.assertIn(own, defined, name)

    def test_l16_no_two_files_import_from_each_other(self):
        left = {"sleepmany." + name.removesuffix(".py"): imports_of(ast.parse(text)) for name, text in sources()}
        while left:
            free = [name for name, rows in left.items() if not any(module in left for module, own in rows)]
            self.assertTrue(free, left)
            left = {name: rows for name, rows in left.items() if name not in free}

    def test_l17_barred_words(self):
        for name, text in sources():
            self.assertEqual([word for word in re.findall(r"\w+", text) if word in BARRED], [], name)
            self.assertNotRegex(text, "dataclass|overload|contextmanager", name)

    def test_l18_no_method_is_an_attribute_elsewhere(self):
        stored = {node.attr for place, node in nodes(ast.Attribute) if isinstance(node.ctx, ast.Store)}
        self.assertEqual(own_methods() & stored, set())

    def test_l19_errors(self):
        for place, node in nodes(ast.ExceptHandler):
            self.assertIsInstance(node.type, ast.Name, place)
            self.assertNotIn(node.type.id, BUILTINS, place)
        for place, node in nodes(ast.Raise):
            self.assertIsInstance(node.exc, ast.Call, place)
            self.assertIsInstance(node.exc.func, ast.Name, place)

    def test_l20_is(self):
        for place, node in nodes(ast.Compare):
            for sign, other in zip(node.ops, node.comparators):
                if isinstance(sign, (ast.Is, ast.IsNot)):
                    self.assertIsInstance(other, ast.Constant, place)
                    self.assertIn(other.value, (None, True, False), place)

    def test_l25_methods(self):
        allowed = METHODS | own_methods()
        for place, node in nodes(ast.Call):
            if isinstance(node.func, ast.Attribute):
                self.assertIn(node.func.attr, allowed, place)

    def test_l27_texts_and_powers(self):
        for place, node in nodes(ast.Constant):
            if isinstance(node.value, str):
                self.assertNotIn("%", node.value, place)
        for place, node in nodes(ast.BinOp):
            if isinstance(node.op, ast.Pow):
                self.assertIsInstance(node.right, ast.Constant, place)
        for name, text in sources():
            for token in tokenize.generate_tokens(io.StringIO(text).readline):
                if token.type == tokenize.STRING:
                    self.assertNotRegex(token.string, r"\\[^nt\\'\"]", name)


if __name__ == "__main__":
    unittest.main()
