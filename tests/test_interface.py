"""Every name of the document's interface: where it is defined, and its parameters."""

import importlib
import inspect
import unittest

from silentslips import errors

FUNCTIONS = {
    "patterns": ["one(symbol, role='plain')", "nothing()"],
    "machines": ["machine_of(kinds, order, *, form='')"],
    "reading": ["tokens_of(text)", "read(book, text)"],
    "rules": ["rule_of(text)", "slipped_at(text, steps)"],
    "slipping": ["fate(book, text, rule, place)", "spots_at(book, text, rule, place)", "origins(book, text, slips)"],
    "crossings": ["gained(book, form, token, *, back=False)", "shed(book, form, token, role, *, back=False)",
                  "joined(book, form)", "split(book, form)"],
    "tables": ["spots_of(book, rule)", "direct(book, rule, spots)", "table(book, rule, spots)",
               "is_table(book, rule, spots, pairs, changes)"],
    "surveys": ["survey(book, slips)", "lookalikes(book)"],
    "fewest": ["fewest(book, slips)", "are_labels(book, slips, labels, prices)"],
    "comparing": ["compare(one, other)", "is_comparison(one, other, pairs, changes)", "reads_alike(one, other)"],
    "writing": ["write(book, meaning)", "loss(book, other)", "is_loss(book, other, rows)"],
    "mending": ["changed(book, changes)", "why_not(book, slips, changes)", "mends(book, slips, *pool)"],
}
SIGNS = ["add", "or", "neg", "pos", "invert", "mul", "rmul", "floordiv", "lshift", "rshift", "eq", "len", "contains"]
# For each class its file, how it is made, if that is listed, and its methods; a name alone is a property.
CLASSES = {
    "Pattern": ("patterns", None, [f"__{sign}__" for sign in SIGNS] + ["within(self, b)", "each(self, most)", "uses(self)"]),
    "Machine": ("machines", None, ["__len__", "go(self, state, symbol)", "run(self, symbols)", "reach(self, state)"]),
    "Form": ("forms", "(self, name, opener, closer, **kinds)", [
        "of(name, opener, closer, pairs)", "whole(**kinds)", "whole_of(pairs)", "is_whole", "__getitem__", "__contains__",
        "__len__"]),
    "Book": ("books", "(self, whole, *forms, words, signs)", [
        "of(forms, words, signs)", "form_named(self, name)", "form_of(self, kind)", "__getitem__", "machine(self, name)",
        "least(self, kind)", "__contains__", "texts(self, most)"]),
    "Reading": ("reading", None, ["__len__", "__str__", "__eq__"]),
    "Reader": ("reading", "(self, book)", [
        "fed", "depth", "expected", "limit", "set_limit(self, count)", "feed(self, token)", "feed_all(self, text)",
        "back(self, count=1)", "done(self)", "copy(self)"]),
    "Rule": ("rules", "(self, *tokens)", ["__str__", "__eq__", "places(self, text)", "__call__", "keeps_words(self, book)"]),
    "Out": ("rules", "(self, token)", []),
    "Twice": ("rules", "(self, token)", []),
    "Swapped": ("rules", "(self, first, second)", []),
    "Taken": ("rules", "(self, first, second)", []),
    "Slips": ("rules", "(self, *rules)", [
        "of(rules)", "every(book)", "__and__", "__or__", "__sub__", "__xor__", "within(self, other)", "__eq__",
        "__contains__", "__len__", "__bool__"]),
    "Table": ("tables", None, ["fates", "__contains__", "__len__", "__eq__"]),
    "Survey": ("surveys", None, [
        "__len__", "__bool__", "fates_of(self, rule, spots=None)", "least(self, rule, fate, *, spots=None)", "silent(self)",
        "page(self)"]),
    "Fewest": ("fewest", None, ["__bool__"]),
    "Comparison": ("comparing", None, ["__bool__"]),
    "Loss": ("writing", None, ["__bool__"]),
    "Change": ("mending", "(self, kind, pattern)", ["__call__"]),
    "Draft": ("drafts", "(self, book)", ["now", "__getitem__", "__setitem__", "apply(self, *changes)", "undo(self)", "__len__"]),
}
ERRORS = {
    "SlipError": ("ValueError", None), "BadCount": ("SlipError", ["count"]), "BadBook": ("SlipError", ["what", "worth"]),
    "Ambiguous": ("SlipError", ["form", "row"]), "Unwritable": ("SlipError", ["kind"]), "Unused": ("SlipError", ["kind"]),
    "BadRule": ("SlipError", ["worth"]), "NoPlace": ("SlipError", ["place"]), "NoCase": ("SlipError", ["rule", "spots"]),
    "Uneven": ("SlipError", ["token"]), "Unwritten": ("SlipError", ["path"]), "Clash": ("SlipError", ["kind"]),
    "Unknown": ("LookupError", ["name"]), "TooFew": ("LookupError", ["count"]), "NothingToUndo": ("LookupError", []),
    "Refused": ("RuntimeError", ["at", "line", "awaited"]), "TooDeep": ("RuntimeError", ["at"]),
}


def module(name):
    return importlib.import_module(f"silentslips.{name}")


class Interface(unittest.TestCase):
    def test_functions(self):
        for name, told in FUNCTIONS.items():
            for line in told:
                function = getattr(module(name), line.split("(")[0])
                self.assertEqual(function.__module__, f"silentslips.{name}")
                self.assertEqual(function.__name__ + str(inspect.signature(function)), line)

    def test_classes(self):
        for name, (file, made, methods) in CLASSES.items():
            found = getattr(module(file), name)
            self.assertEqual((found.__module__, found.__name__), (f"silentslips.{file}", name))
            if made is not None:
                self.assertEqual(str(inspect.signature(vars(found)["__init__"])), made, name)
            for line in methods:
                self.check_method(found, line)

    def check_method(self, found, line):
        name = line.split("(")[0]
        self.assertIn(name, vars(found), (found.__name__, name))
        if "(" in line:
            self.assertEqual(name + str(inspect.signature(getattr(found, name))), line)
        elif not name.startswith("__"):
            self.assertIsInstance(vars(found)[name], property)

    def test_errors(self):
        for name, (above, fields) in ERRORS.items():
            found = getattr(errors, name)
            self.assertEqual([base.__name__ for base in found.__bases__], [above])
            self.assertEqual(found.__module__, "silentslips.errors")
            if fields is not None:
                self.assertEqual(list(inspect.signature(found).parameters), fields)

    def test_class_values(self):
        self.assertEqual(module("books").Book.LIMIT, 40)
        self.assertEqual(module("reading").Reader.LIMIT, 150)
        self.assertEqual([getattr(module("rules"), name).word for name in ("Out", "Twice", "Swapped", "Taken")],
                         ["out", "twice", "swapped", "taken"])

    def test_what_cannot_be_iterated_over(self):
        book = module("books").Book(module("forms").Form.whole(doc=module("patterns").nothing()), words=[], signs=[])
        for thing in (book, book.form_named("whole"), module("drafts").Draft(book)):
            with self.assertRaises(TypeError):
                iter(thing)

    def test_equal_to_nothing_of_another_class(self):
        book = module("books").Book(module("forms").Form.whole(doc=module("patterns").one("x")), words=["x"], signs=[])
        rule = module("rules").Out("x")
        slips = module("rules").Slips(rule)
        spots = module("tables").spots_of(book, rule)[0]
        things = [book["doc"], book.machine("whole"), book.form_named("whole"), book, module("reading").read(book, "x"), rule,
                  slips, module("tables").table(book, rule, spots), module("surveys").survey(book, slips),
                  module("fewest").fewest(book, module("rules").Slips()), module("comparing").compare(book, book),
                  module("writing").loss(book, book), module("mending").Change("doc", book["doc"]),
                  module("drafts").Draft(book), "x", ("x",), ["x"], 1, None]
        for at, thing in enumerate(things):
            for other in things[:at] + things[at + 1:]:
                self.assertFalse(thing == other, (thing, other))


if __name__ == "__main__":
    unittest.main()
