"""Rules of the language that a look at the files can tell: sizes, characters, imports, and words that are not used."""

import ast
import builtins
import unittest
from pathlib import Path

PACKAGE = Path(__file__).resolve().parent.parent / "silentslips"
FILES = sorted(PACKAGE.rglob("*.py"))
BUILTINS = {
    "len", "range", "enumerate", "zip", "min", "max", "sum", "abs", "sorted", "reversed", "int", "str", "bool", "bytes",
    "list", "tuple", "dict", "set", "isinstance", "ord", "repr", "any", "all", "divmod", "pow", "getattr", "hasattr",
    "setattr", "iter", "next", "map", "type", "super", "property", "classmethod", "staticmethod", "Exception",
    "ValueError", "TypeError", "KeyError", "IndexError", "LookupError", "ZeroDivisionError", "ArithmeticError",
    "OverflowError", "RuntimeError", "NotImplementedError", "AttributeError", "StopIteration", "NotImplemented",
}
LIBRARY = {"heapq", "math", "itertools", "collections", "__future__"}
LAZY = {"range", "zip", "enumerate", "reversed", "map", "items", "keys", "values"}
TAKERS = {"list", "tuple", "dict", "sorted", "sum", "any", "all", "min", "max", "enumerate", "zip"}
QUIET = {"__eq__", "__ne__", "__lt__", "__le__", "__gt__", "__ge__", "__len__", "__str__", "__repr__"}
MODIFIERS = {
    "append", "clear", "extend", "insert", "pop", "remove", "reverse", "setdefault", "update", "sort", "add", "discard",
}
HEAPS = {"heappush", "heappop", "heapify", "heapreplace", "heappushpop"}
NODES_OUT = (ast.AsyncFunctionDef, ast.AsyncFor, ast.AsyncWith, ast.Await, ast.Div, ast.MatMult, ast.Import)


def made_in(tree):
    """The names that a file binds itself."""
    made = {part.name for part in tree.body if hasattr(part, "name")}
    return made | {target.id for part in tree.body if isinstance(part, ast.Assign) for target in part.targets}


def bound_in(tree):
    """The names of parameters and of variables of a file."""
    found = {node.arg for node in ast.walk(tree) if isinstance(node, ast.arg)}
    return found | {node.id for node in ast.walk(tree) if isinstance(node, ast.Name) and isinstance(node.ctx, ast.Store)}


def yields(node):
    return any(isinstance(part, (ast.Yield, ast.YieldFrom)) for part in ast.walk(node))


def called_name(node):
    """The name by which a call calls, or None."""
    return getattr(node.func, "id", getattr(node.func, "attr", None)) if isinstance(node, ast.Call) else None


def walked_at_once(tree):
    """What a file iterates over on the spot: behind an in, or as the first argument of what takes it whole."""
    found = [node.iter for node in ast.walk(tree) if isinstance(node, (ast.For, ast.comprehension))]
    return found + [node.args[0] for node in ast.walk(tree) if called_name(node) in TAKERS and node.args]


def kept_in(tree):
    """The rows of a file in which a range, a zip, a view and the like is not iterated over on the spot.

    The language lets a variable keep one under conditions; here nothing is kept, so that none can be missed.
    """
    at_once = walked_at_once(tree)
    return [node.lineno for node in ast.walk(tree) if called_name(node) in LAZY and node not in at_once]


def is_new(value):
    """Whether a value is plainly a new list or dict."""
    return isinstance(value, (ast.List, ast.Dict, ast.ListComp, ast.DictComp)) or called_name(value) in {"list", "dict"}


def created_in(function):
    """The variables of a function that are only ever assigned new lists and dicts."""
    stored = [node.id for node in ast.walk(function) if isinstance(node, ast.Name) and isinstance(node.ctx, ast.Store)]
    new = [node.targets[0].id for node in ast.walk(function)
           if isinstance(node, ast.Assign) and isinstance(node.targets[0], ast.Name) and is_new(node.value)]
    return {name for name in new if stored.count(name) == new.count(name)}


def modified_in(function):
    """What a function modifies: a node for each attribute, item, list or set, as far as the words show it."""
    for node in ast.walk(function):
        if isinstance(node, (ast.Subscript, ast.Attribute)) and not isinstance(node.ctx, ast.Load):
            yield node.value if isinstance(node, ast.Subscript) else node
        elif isinstance(node, ast.AugAssign):
            yield node
        elif isinstance(node, ast.Call) and isinstance(node.func, ast.Attribute) and node.func.attr in MODIFIERS:
            yield node.func.value
        elif called_name(node) in HEAPS:
            yield node.args[0]


def not_own_in(function):
    """The rows in which a function modifies what is no list or dict that it created itself."""
    created = created_in(function)
    return [node.lineno for node in modified_in(function) if getattr(node, "id", None) not in created]


def run_by(names, trees):
    """The functions and methods of these names, and all that have a name that one of them calls."""
    made = [node for tree in trees for node in ast.walk(tree) if isinstance(node, ast.FunctionDef)]
    found, todo = [], [node for node in made if node.name in names]
    while todo:
        node = todo.pop()
        found.append(node)
        called = {called_name(part) for part in ast.walk(node)}
        todo += [other for other in made if other.name in called and other not in found + todo]
    return found


class Files(unittest.TestCase):
    def test_the_folder_contains_nothing_else(self):
        found = [path for path in PACKAGE.rglob("*") if "__pycache__" not in path.parts]
        self.assertEqual(sorted(found), FILES)
        self.assertIn(PACKAGE / "__init__.py", FILES)

    def test_sizes_and_characters(self):
        for path in FILES:
            text = path.read_text(encoding="utf-8")
            lines = text.split("\n")
            with self.subTest(path=path.name):
                self.assertLessEqual(len(lines), 399)
                self.assertLessEqual(max(len(line) for line in lines), 120)
                self.assertEqual([sign for sign in text if not (" " <= sign <= "~" or sign == "\n")], [])

    def test_functions_are_small(self):
        for path in FILES:
            for node in ast.walk(ast.parse(path.read_text())):
                if isinstance(node, ast.FunctionDef):
                    self.assertLessEqual(node.end_lineno - node.lineno + 1, 40, (path.name, node.name))


class Words(unittest.TestCase):
    def test_imports(self):
        for path in FILES:
            for node in ast.walk(ast.parse(path.read_text())):
                if not isinstance(node, ast.ImportFrom) or node.module in LIBRARY:
                    continue
                package, *below = node.module.split(".")
                self.assertEqual(package, "silentslips")
                source = (PACKAGE.joinpath(*below).with_suffix(".py")).read_text()
                self.assertLessEqual({name.name for name in node.names}, made_in(ast.parse(source)), path.name)

    def test_no_other_statements(self):
        for path in FILES:
            for node in ast.walk(ast.parse(path.read_text())):
                self.assertNotIsInstance(node, NODES_OUT, (path.name, getattr(node, "lineno", 0)))

    def test_no_other_builtins(self):
        for path in FILES:
            tree = ast.parse(path.read_text())
            read = {node.id for node in ast.walk(tree) if isinstance(node, ast.Name)}
            self.assertLessEqual(read & set(dir(builtins)), BUILTINS, path.name)

    def test_no_other_meaning_for_names(self):
        for path in FILES:
            tree = ast.parse(path.read_text())
            imported = {name.name for node in tree.body if isinstance(node, ast.ImportFrom) for name in node.names}
            classes = {node.name for node in tree.body if isinstance(node, ast.ClassDef)}
            self.assertEqual(bound_in(tree) & (imported | classes | set(dir(builtins))), set(), path.name)

    def test_what_is_imported_is_used(self):
        for path in FILES:
            tree = ast.parse(path.read_text())
            imported = {name.name for node in tree.body if isinstance(node, ast.ImportFrom) for name in node.names}
            read = {node.id for node in ast.walk(tree) if isinstance(node, ast.Name)}
            self.assertLessEqual(imported, read, path.name)

    def test_no_generator_expressions_and_no_percent_sign(self):
        for path in FILES:
            for node in ast.walk(ast.parse(path.read_text())):
                self.assertNotIsInstance(node, (ast.GeneratorExp, ast.Mod), path.name)
                if isinstance(node, ast.Constant) and isinstance(node.value, str):
                    self.assertNotIn(chr(37), node.value, path.name)

    def test_what_is_iterated_over_is_not_kept(self):
        for path in FILES:
            self.assertEqual(kept_in(ast.parse(path.read_text())), [], path.name)

    def test_what_is_kept_is_told(self):
        for row in ("k = range(3)", "f(xs.items())", "k = a if b else zip(a, b)", "k = [reversed(a)]",
                    "k.v = enumerate(a)", "f(range(3), k=1)", "f(map(str, a))"):
            self.assertEqual(kept_in(ast.parse(row)), [1], row)
        for row in ("k = list(range(3))", "k = [a for a in zip(b, c)]", "for a, b in k.items(): pass"):
            self.assertEqual(kept_in(ast.parse(row)), [], row)


class Methods(unittest.TestCase):
    """A name is a method, an attribute, a property or a generator in the whole package, not two of these."""

    def setUp(self):
        self.methods, self.attributes, self.generators = set(), set(), set()
        trees = [ast.parse(path.read_text()) for path in FILES]
        self.classes = [node for tree in trees for node in tree.body if isinstance(node, ast.ClassDef)]
        for node in self.classes:
            made = [part for part in node.body if isinstance(part, ast.FunctionDef)]
            self.methods |= {part.name for part in made if not self.is_setter(part)}
            self.generators |= {part.name for part in made if yields(part)}
            self.attributes |= {part.attr for part in ast.walk(node) if isinstance(part, ast.Attribute)
                                and isinstance(part.ctx, ast.Store)}

    def is_setter(self, made):
        return any(isinstance(part, ast.Attribute) for part in made.decorator_list)

    def test_attributes_are_no_methods(self):
        # A property with a setter is assigned, too.
        self.assertEqual(self.attributes & self.methods, {"limit"})

    def test_generators(self):
        self.assertEqual(self.generators, {"each", "texts", "places"})
        for node in self.classes:
            called = {part.name for part in node.body if isinstance(part, ast.FunctionDef)}
            self.assertLessEqual(len(called & self.generators), 1, node.name)


class Comparisons(unittest.TestCase):
    """Beside heaps, == and len, str and repr modify only lists and dicts of their own, also in what they call."""

    def test_they_modify_nothing_else(self):
        found = run_by(QUIET, [ast.parse(path.read_text()) for path in FILES])
        self.assertLessEqual({"__eq__", "within", "moves", "numbers_in"}, {node.name for node in found})
        for node in found:
            self.assertEqual(not_own_in(node), [], node.name)

    def test_what_is_modified_is_told(self):
        for row in ("k = set(); k.add(1)", "k = {1}; k.discard(1)", "self.k = 1", "self.k[0] = 1", "k.pop()", "k += 1",
                    "del k[0]", "k = []; k = a; k.append(1)", "heappush(k, 1)", "self.k.append(1)", "k, self.k = 1, 2"):
            self.assertEqual(not_own_in(ast.parse(row)), [1], row)
        for row in ("k = []; k.append(1)", "k = {}; k[0] = 1", "k = list(a); k.pop()", "k = a + 1",
                    "k = []; heappop(k)", "k = {a: True for a in b}; k[0] = True"):
            self.assertEqual(not_own_in(ast.parse(row)), [], row)


if __name__ == "__main__":
    unittest.main()
