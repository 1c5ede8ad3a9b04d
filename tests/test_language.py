"""Rules of the language that a look at the files can tell: sizes, characters, imports, and words that are not used."""

import ast
import builtins
import unittest
from pathlib import Path

PACKAGE = Path(__file__).resolve().parent.parent / "silentslips"
FILES = sorted(PACKAGE.rglob("*.py"))
BUILTINS = {
    "len", "range", "enumerate", "zip", "min", "max", "sum", "abs", "sorted", "reversed", "int", "str", "bool", "bytes",
    "list", "tuple", "dict", "set", "isinstance", "ord", "repr", "any", "all", "divmod", "pow", "getattr", "hasattr",
    "setattr", "iter", "next", "map", "type", "super", "property", "classmethod", "staticmethod", "Exception",
    "ValueError", "TypeError", "KeyError", "IndexError", "LookupError", "ZeroDivisionError", "ArithmeticError",
    "OverflowError", "RuntimeError", "NotImplementedError", "AttributeError", "StopIteration", "NotImplemented",
}
LIBRARY = {"heapq", "math", "itertools", "collections", "__future__"}
NODES_OUT = (ast.AsyncFunctionDef, ast.AsyncFor, ast.AsyncWith, ast.Await, ast.Div, ast.MatMult, ast.Import)


def made_in(tree):
    """The names that a file binds itself."""
    made = {part.name for part in tree.body if hasattr(part, "name")}
    return made | {target.id for part in tree.body if isinstance(part, ast.Assign) for target in part.targets}


def bound_in(tree):
    """The names of parameters and of variables of a file."""
    found = {node.arg for node in ast.walk(tree) if isinstance(node, ast.arg)}
    return found | {node.id for node in ast.walk(tree) if isinstance(node, ast.Name) and isinstance(node.ctx, ast.Store)}


def yields(node):
    return any(isinstance(part, (ast.Yield, ast.YieldFrom)) for part in ast.walk(node))


class Files(unittest.TestCase):
    def test_the_folder_contains_nothing_else(self):
        found = [path for path in PACKAGE.rglob("*") if "__pycache__" not in path.parts]
        self.assertEqual(sorted(found), FILES)
        self.assertIn(PACKAGE / "__init__.py", FILES)

    def test_sizes_and_characters(self):
        for path in FILES:
            text = path.read_text(encoding="utf-8")
            lines = text.split("\n")
            with self.subTest(path=path.name):
                self.assertLessEqual(len(lines), 399)
                self.assertLessEqual(max(len(line) for line in lines), 120)
                self.assertEqual([sign for sign in text if not (" " <= sign <= "~" or sign == "\n")], [])

    def test_functions_are_small(self):
        for path in FILES:
            for node in ast.walk(ast.parse(path.read_text())):
                if isinstance(node, ast.FunctionDef):
                    self.assertLessEqual(node.end_lineno - node.lineno + 1, 40, (path.name, node.name))


class Words(unittest.TestCase):
    def test_imports(self):
        for path in FILES:
            for node in ast.walk(ast.parse(path.read_text())):
                if not isinstance(node, ast.ImportFrom) or node.module in LIBRARY:
                    continue
                package, *below = node.module.split(".")
                self.assertEqual(package, "silentslips")
                source = (PACKAGE.joinpath(*below).with_suffix(".py")).read_text()
                self.assertLessEqual({name.name for name in node.names}, made_in(ast.parse(source)), path.name)

    def test_no_other_statements(self):
        for path in FILES:
            for node in ast.walk(ast.parse(path.read_text())):
                self.assertNotIsInstance(node, NODES_OUT, (path.name, getattr(node, "lineno", 0)))

    def test_no_other_builtins(self):
        for path in FILES:
            tree = ast.parse(path.read_text())
            read = {node.id for node in ast.walk(tree) if isinstance(node, ast.Name)}
            self.assertLessEqual(read & set(dir(builtins)), BUILTINS, path.name)

    def test_no_other_meaning_for_names(self):
        for path in FILES:
            tree = ast.parse(path.read_text())
            imported = {name.name for node in tree.body if isinstance(node, ast.ImportFrom) for name in node.names}
            classes = {node.name for node in tree.body if isinstance(node, ast.ClassDef)}
            self.assertEqual(bound_in(tree) & (imported | classes | set(dir(builtins))), set(), path.name)

    def test_what_is_imported_is_used(self):
        for path in FILES:
            tree = ast.parse(path.read_text())
            imported = {name.name for node in tree.body if isinstance(node, ast.ImportFrom) for name in node.names}
            read = {node.id for node in ast.walk(tree) if isinstance(node, ast.Name)}
            self.assertLessEqual(imported, read, path.name)

    def test_no_generator_expressions_and_no_percent_sign(self):
        for path in FILES:
            for node in ast.walk(ast.parse(path.read_text())):
                self.assertNotIsInstance(node, (ast.GeneratorExp, ast.Mod), path.name)
                if isinstance(node, ast.Constant) and isinstance(node.value, str):
                    self.assertNotIn(chr(37), node.value, path.name)


class Methods(unittest.TestCase):
    """A name is a method, an attribute, a property or a generator in the whole package, not two of these."""

    def setUp(self):
        self.methods, self.attributes, self.generators = set(), set(), set()
        trees = [ast.parse(path.read_text()) for path in FILES]
        self.classes = [node for tree in trees for node in tree.body if isinstance(node, ast.ClassDef)]
        for node in self.classes:
            made = [part for part in node.body if isinstance(part, ast.FunctionDef)]
            self.methods |= {part.name for part in made if not self.is_setter(part)}
            self.generators |= {part.name for part in made if yields(part)}
            self.attributes |= {part.attr for part in ast.walk(node) if isinstance(part, ast.Attribute)
                                and isinstance(part.ctx, ast.Store)}

    def is_setter(self, made):
        return any(isinstance(part, ast.Attribute) for part in made.decorator_list)

    def test_attributes_are_no_methods(self):
        # A property with a setter is assigned, too.
        self.assertEqual(self.attributes & self.methods, {"limit"})

    def test_generators(self):
        self.assertEqual(self.generators, {"each", "texts", "places"})
        for node in self.classes:
            called = {part.name for part in node.body if isinstance(part, ast.FunctionDef)}
            self.assertLessEqual(len(called & self.generators), 1, node.name)


if __name__ == "__main__":
    unittest.main()
