"""Books under work: point 39."""

import unittest

from silentslips.books import Book
from silentslips.drafts import Draft
from silentslips.errors import Ambiguous, BadBook, Clash, NothingToUndo, Unknown, Unused, Unwritable
from silentslips.forms import Form
from silentslips.mending import Change
from silentslips.patterns import one

X, Y, COMMA, SEMI = one("x", "item"), one("y", "item"), one(",", "between"), one(";", "end")
A, B = one("a", "r"), one("b", "r")
BOOK = Book(Form.whole(doc=A | B), Form("f", "(", ")", a=X, b=X + COMMA), words=["x", "y"], signs=[",", ";"])
TWO, MARK = Change("b", X + COMMA * 2), Change("a", X + SEMI)


class Drafts(unittest.TestCase):
    def setUp(self):
        self.draft = Draft(BOOK)

    def check(self, steps, *texts):
        self.assertEqual(len(self.draft), steps)
        self.assertIsInstance(self.draft.now, Book)
        self.assertEqual(list(self.draft.now.texts(6)), list(texts))

    def test_at_the_beginning(self):
        self.check(0, "( x )", "( x , )")
        self.assertEqual(len(Draft(book=BOOK)), 0)

    def test_asking(self):
        for kind in BOOK.kinds:
            self.assertTrue(self.draft[kind] == BOOK[kind])
        for name in ("c", "", "whole", "f", "x", "A"):
            with self.assertRaises(Unknown) as caught:
                self.draft[name]
            self.assertEqual(caught.exception.name, name)

    def test_setting(self):
        self.draft["b"] = X + COMMA * 2
        self.check(1, "( x )", "( x , , )")
        self.assertTrue(self.draft["b"] == X + COMMA * 2)
        self.draft["b"] = X + SEMI
        self.check(2, "( x )", "( x ; )")
        self.draft["doc"] = A + -B
        self.check(3, "( x )")
        self.assertEqual(list(BOOK.texts(6)), ["( x )", "( x , )"])

    def test_apply(self):
        self.assertIsNone(self.draft.apply(TWO, MARK))
        self.check(1, "( x ; )", "( x , , )")
        self.draft.apply(Change("a", X + COMMA))
        self.check(2, "( x , )", "( x , , )")
        self.draft.apply()
        self.check(3, "( x , )", "( x , , )")
        self.draft.undo()
        self.check(2, "( x , )", "( x , , )")

    def test_apply_at_once(self):
        # One after the other these would be ambiguous.
        self.draft.apply(Change("a", X + COMMA), Change("b", X))
        self.check(1, "( x )", "( x , )")
        self.assertTrue(self.draft["b"] == X)

    def test_undo(self):
        self.draft["b"] = X + SEMI
        self.draft.apply(TWO, MARK)
        self.draft.apply()
        self.assertIsNone(self.draft.undo())
        self.check(2, "( x ; )", "( x , , )")
        self.draft.undo()
        self.check(1, "( x )", "( x ; )")
        self.draft["a"] = X + COMMA
        self.check(2, "( x , )", "( x ; )")
        self.draft.undo()
        self.draft.undo()
        self.check(0, "( x )", "( x , )")

    def test_nothing_to_undo(self):
        with self.assertRaises(NothingToUndo):
            self.draft.undo()
        self.draft.apply(TWO)
        self.draft.undo()
        for _ in range(2):
            with self.assertRaises(NothingToUndo):
                self.draft.undo()
        self.check(0, "( x )", "( x , )")

    def test_a_step_that_raises_is_none(self):
        self.draft.apply(MARK)
        before = self.draft.now
        for changes, error in (
            ([Change("c", X)], Unknown), ([TWO, TWO, Change("c", X)], Unknown), ([TWO, TWO], Clash),
            ([TWO, Change("a", one("z"))], BadBook), ([Change("b", X + SEMI)], Ambiguous), ([Change("b", B)], Unwritable),
            ([Change("doc", A)], Unused),
        ):
            with self.assertRaises(error):
                self.draft.apply(*changes)
            self.assertIs(self.draft.now, before)
            self.check(1, "( x , )", "( x ; )")
        self.draft.undo()
        self.check(0, "( x )", "( x , )")

    def test_what_setting_raises(self):
        for kind, pattern, error, fields in (
            ("c", X, Unknown, {"name": "c"}), ("", X, Unknown, {"name": ""}), ("whole", X, Unknown, {"name": "whole"}),
            ("b", one("z"), BadBook, {"what": "symbol", "worth": "z"}), ("b", X, Ambiguous, {"form": "f", "row": ("x",)}),
            ("b", B, Unwritable, {"kind": "b"}), ("doc", B, Unused, {"kind": "a"}),
        ):
            with self.assertRaises(error) as caught:
                self.draft[kind] = pattern
            self.assertEqual({name: getattr(caught.exception, name) for name in fields}, fields)
            self.check(0, "( x )", "( x , )")

    def test_what_apply_raises(self):
        with self.assertRaises(Clash) as caught:
            self.draft.apply(TWO, MARK, TWO)
        self.assertEqual(caught.exception.kind, "b")
        with self.assertRaises(Unknown) as caught:
            self.draft.apply(TWO, TWO, Change("d", X), Change("c", X))
        self.assertEqual(caught.exception.name, "d")

    def test_two_drafts_of_one_book(self):
        other = Draft(BOOK)
        self.draft.apply(TWO)
        self.assertEqual(len(other), 0)
        self.assertTrue(other["b"] == X + COMMA)
        other["a"] = X + SEMI
        self.check(1, "( x )", "( x , , )")
        third = Draft(self.draft.now)
        self.draft.undo()
        self.assertEqual(list(third.now.texts(6)), ["( x )", "( x , , )"])
        self.assertEqual(len(third), 0)

    def test_no_iteration(self):
        for way in (iter, list, tuple, sorted, lambda told: [*told], lambda told: [part for part in told],
                    lambda told: "a" in told):
            with self.assertRaises(TypeError):
                way(self.draft)

    def test_now_is_read_only(self):
        with self.assertRaises(AttributeError):
            self.draft.now = BOOK
        self.assertIsInstance(vars(Draft)["now"], property)


class Interface(unittest.TestCase):
    def test_defined_in_the_file_itself(self):
        self.assertEqual(Draft.__module__, "silentslips.drafts")
        for name in ("now", "__getitem__", "__setitem__", "apply", "undo", "__len__", "__iter__"):
            self.assertIn(name, vars(Draft))


if __name__ == "__main__":
    unittest.main()
