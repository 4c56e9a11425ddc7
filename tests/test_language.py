"""The rules of LANGUAGE.md that a test can read off the files of the package."""

import ast
import builtins
import pathlib
import re
import unittest

FOLDER = pathlib.Path(__file__).resolve().parent.parent / "goalcolumn"
BUILTINS = {
    "len", "range", "enumerate", "zip", "min", "max", "sum", "abs", "sorted", "reversed", "int", "str", "bool",
    "list", "tuple", "dict", "set", "isinstance", "repr", "any", "all", "divmod", "ValueError",
    "property", "classmethod",
}
AT_MODULE_LEVEL = (ast.ImportFrom, ast.FunctionDef, ast.ClassDef, ast.Assign, ast.Expr)
BARRED_WORDS = re.compile(
    r"\b(typing|enum|Enum|Generic|Protocol|ABC|namedtuple|NamedTuple|TypedDict|abstractmethod|_wall|_WallAttr"
    r"|open|input|eval|exec|vars|globals|locals|global|async|elements|register|law)\b"
)


def files():
    """Each file of the package."""
    return [path for path in sorted(FOLDER.rglob("*")) if path.is_file() and "__pycache__" not in path.parts]


def trees():
    """The name of each file and what it contains."""
    return [(path.name, ast.parse(path.read_text(encoding="utf-8"))) for path in files()]


def nodes():
    """The name of each file with each part of what it contains."""
    return [(name, node) for name, tree in trees() for node in ast.walk(tree)]


def bound_names(node):
    """The names that a statement at module level binds."""
    if isinstance(node, ast.Assign):
        return [target.id for target in node.targets]
    if isinstance(node, ast.ImportFrom):
        return [alias.name for alias in node.names]
    return [node.name] if isinstance(node, (ast.FunctionDef, ast.ClassDef)) else []


def local_names(tree):
    """The names of parameters and of what functions assign."""
    for node in tree.body:
        for part in ast.walk(node):
            if isinstance(part, ast.arg):
                yield part.arg
            elif isinstance(part, ast.Name) and isinstance(part.ctx, ast.Store) and not isinstance(node, ast.Assign):
                yield part.id


class LanguageTest(unittest.TestCase):

    def test_l1_l14_files(self):
        self.assertIn("__init__.py", [path.name for path in files()])
        for path in files():
            self.assertRegex(path.name, r"^[a-z_][a-z0-9_]*\.py$")
            self.assertNotRegex(path.name, r"^(law_|test)")

    def test_l10_l14_sizes_and_characters(self):
        for path in files():
            text = path.read_text(encoding="utf-8")
            self.assertLessEqual(len(text.splitlines()), 399, path.name)
            self.assertLessEqual(max(map(len, text.splitlines())), 120, path.name)
            self.assertTrue(all(sign == "\n" or " " <= sign <= "~" for sign in text), path.name)
        for name, node in nodes():
            if isinstance(node, ast.FunctionDef):
                self.assertLessEqual(node.end_lineno - node.lineno + 1, 40, (name, node.name))

    def test_l2_l16_imports(self):
        defined = {name: [item for node in tree.body for item in bound_names(node)
                          if not isinstance(node, ast.ImportFrom)] for name, tree in trees()}
        for name, node in nodes():
            self.assertNotIsInstance(node, ast.Import, name)
            if isinstance(node, ast.ImportFrom):
                self.assertRegex(node.module, r"^goalcolumn\.[a-z_]+$", name)
                for alias in node.names:
                    self.assertIn(alias.name, defined[node.module.split(".")[1] + ".py"], name)

    def test_l3_l15_module_level(self):
        for name, tree in trees():
            bound = [item for node in tree.body for item in bound_names(node)]
            self.assertEqual(len(bound), len(set(bound)), name)
            self.assertEqual(set(bound) & set(local_names(tree)), set(), name)
            for node in tree.body:
                self.assertIsInstance(node, AT_MODULE_LEVEL, name)
                if isinstance(node, ast.Assign):
                    ast.literal_eval(node.value)

    def test_l7_no_floats_and_no_division(self):
        for name, node in nodes():
            self.assertNotIsInstance(node, ast.Div, name)
            if isinstance(node, ast.Constant):
                self.assertNotIsInstance(node.value, (float, complex), name)

    def test_l7_l25_a_class_compares(self):
        # Where a class has __eq__, any, all, min, max, sum and sorted take lists, and nothing is sorted in place.
        for name, node in nodes():
            self.assertNotIsInstance(node, ast.GeneratorExp, name)
            self.assertFalse(isinstance(node, ast.Attribute) and node.attr == "sort", name)

    def test_l5_decorators(self):
        for name, node in nodes():
            for decorator in getattr(node, "decorator_list", []):
                self.assertIn(ast.unparse(decorator), ["property", "classmethod"], name)

    def test_l23_own_generators_are_iterated_at_once(self):
        parts = [node for _, node in nodes()]
        generators = {node.name for node in parts if isinstance(node, ast.FunctionDef) and any(
            isinstance(part, (ast.Yield, ast.YieldFrom)) for part in ast.walk(node))}
        self.assertEqual(generators, {"places", "trail"})
        at_once = [node.args[0].func for node in parts if isinstance(node, ast.Call)
                   and ast.unparse(node.func) == "list" and isinstance(node.args[0], ast.Call)]
        for node in parts:
            if isinstance(node, ast.Name) and node.id in generators:
                self.assertIn(node, at_once)

    def test_l8_builtins(self):
        for name, node in nodes():
            if isinstance(node, ast.Name) and hasattr(builtins, node.id):
                self.assertIn(node.id, BUILTINS, name)
                self.assertIsInstance(node.ctx, ast.Load, name)

    def test_l17_words(self):
        for path in files():
            self.assertIsNone(BARRED_WORDS.search(path.read_text(encoding="utf-8")), path.name)


if __name__ == "__main__":
    unittest.main()
