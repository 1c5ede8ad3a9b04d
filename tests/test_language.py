"""Rules of the language that a look at the files can tell: sizes, characters, imports, and words that are not used."""

import ast
import builtins
import unittest
from pathlib import Path

PACKAGE = Path(__file__).resolve().parent.parent / "silentslips"
FILES = sorted(PACKAGE.rglob("*.py"))
BUILTINS = {
    "len", "range", "enumerate", "zip", "min", "max", "sum", "abs", "sorted", "reversed", "int", "str", "bool", "bytes",
    "list", "tuple", "dict", "set", "isinstance", "ord", "repr", "any", "all", "divmod", "pow", "getattr", "hasattr",
    "setattr", "iter", "next", "map", "type", "super", "property", "classmethod", "staticmethod", "Exception",
    "ValueError", "TypeError", "KeyError", "IndexError", "LookupError", "ZeroDivisionError", "ArithmeticError",
    "OverflowError", "RuntimeError", "NotImplementedError", "AttributeError", "StopIteration", "NotImplemented",
}
LIBRARY = {"heapq", "math", "itertools", "collections", "__future__"}
NODES_OUT = (ast.AsyncFunctionDef, ast.AsyncFor, ast.AsyncWith, ast.Await, ast.Div, ast.MatMult, ast.Import)


class Files(unittest.TestCase):
    def test_the_folder_contains_nothing_else(self):
        found = [path for path in PACKAGE.rglob("*") if "__pycache__" not in path.parts]
        self.assertEqual(sorted(found), FILES)
        self.assertIn(PACKAGE / "__init__.py", FILES)

    def test_sizes_and_characters(self):
        for path in FILES:
            text = path.read_text(encoding="utf-8")
            lines = text.split("\n")
            with self.subTest(path=path.name):
                self.assertLessEqual(len(lines), 399)
                self.assertLessEqual(max(len(line) for line in lines), 120)
                self.assertEqual([sign for sign in text if not (" " <= sign <= "~" or sign == "\n")], [])

    def test_functions_are_small(self):
        for path in FILES:
            for node in ast.walk(ast.parse(path.read_text())):
                if isinstance(node, ast.FunctionDef):
                    self.assertLessEqual(node.end_lineno - node.lineno + 1, 40, (path.name, node.name))


class Words(unittest.TestCase):
    def test_imports(self):
        for path in FILES:
            for node in ast.walk(ast.parse(path.read_text())):
                if not isinstance(node, ast.ImportFrom) or node.module in LIBRARY:
                    continue
                package, *below = node.module.split(".")
                self.assertEqual(package, "silentslips")
                source = (PACKAGE.joinpath(*below).with_suffix(".py")).read_text()
                made = {part.name for part in ast.parse(source).body if hasattr(part, "name")}
                self.assertLessEqual({name.name for name in node.names}, made, path.name)

    def test_no_other_statements(self):
        for path in FILES:
            for node in ast.walk(ast.parse(path.read_text())):
                self.assertNotIsInstance(node, NODES_OUT, (path.name, getattr(node, "lineno", 0)))

    def test_no_other_builtins(self):
        for path in FILES:
            tree = ast.parse(path.read_text())
            read = {node.id for node in ast.walk(tree) if isinstance(node, ast.Name)}
            self.assertLessEqual(read & set(dir(builtins)), BUILTINS, path.name)


if __name__ == "__main__":
    unittest.main()
