"""The example at the end of the document."""

import unittest

from silentslips.books import Book
from silentslips.errors import Refused
from silentslips.forms import Form
from silentslips.machines import machine_of
from silentslips.patterns import one
from silentslips.reading import Reader, read
from silentslips.rules import Out, Slips, rule_of
from silentslips.slipping import fate, spots_at
from silentslips.surveys import survey

SYMBOLS = ["x", "s", ",", "group", "tuple", "list"]


class Example(unittest.TestCase):
    def setUp(self):
        item = one("x", "item") | one("group", "item") | one("tuple", "item") | one("list", "item")
        comma = one(",", "between")
        string = one("s", "new") + ~one("s", "joined")
        self.whole = Form.whole(doc=item)
        self.round = Form("round", "(", ")", group=item, tuple=(item >> comma) + -item)
        self.list = Form("list", "[", "]", list=-((item | string) << comma))

    def machine(self, form):
        return machine_of([(kind, form[kind]) for kind in form.kinds], SYMBOLS, form=form.name)

    def test_forms(self):
        self.assertEqual([form.kinds for form in (self.whole, self.round, self.list)],
                         [("doc",), ("group", "tuple"), ("list",)])
        self.assertEqual([form.is_whole for form in (self.whole, self.round, self.list)], [True, False, False])

    def test_patterns(self):
        x, comma = ("x", "item"), (",", "between")
        self.assertEqual([len(form[kind]) for form in (self.round, self.list) for kind in form.kinds], [4, 9, 7])
        for row in ((x, comma), (x, comma, x), (x, comma, ("list", "item"), comma)):
            self.assertIn(row, self.round["tuple"])
        for row in ((), (x,), (comma,), (x, x), (x, comma, comma)):
            self.assertNotIn(row, self.round["tuple"])
        self.assertTrue(self.round["group"] == self.whole["doc"])
        self.assertEqual(self.list["list"].uses(), [",", "group", "list", "s", "tuple", "x"])

    def test_whole_machine(self):
        machine = self.machine(self.whole)
        self.assertEqual(machine.ends, (None, "doc"))
        self.assertEqual([step[1] for step in machine.steps], ["x", "group", "tuple", "list"])

    def test_round_machine(self):
        machine = self.machine(self.round)
        self.assertEqual(machine.ends, (None, "group", "tuple", "tuple"))
        self.assertEqual(machine.run(["x", ","]), (("item", "between"), 2))
        self.assertEqual(machine.go(1, ","), ("between", 2))
        self.assertIsNone(machine.go(1, "x"))
        self.assertEqual([machine.reach(state) for state in range(4)],
                         [["group", "tuple"], ["group", "tuple"], ["tuple"], ["tuple"]])

    def test_list_machine(self):
        machine = self.machine(self.list)
        self.assertEqual(machine.run(["s", "s", ",", "s"])[0], ("new", "joined", "between", "new"))
        # Behind a comma a list can stop or go on as it can at its beginning: that is one state.
        self.assertEqual(machine.ends, ("list",) * 3)
        self.assertEqual([machine.run(row)[1] for row in ([], ["x", ","], ["s", "s", ","])], [0, 0, 0])
        self.assertIsNone(machine.run(["x", "s"]))

    def book(self):
        return Book(self.whole, self.round, self.list, words=["x", "s"], signs=[","])

    def test_book(self):
        book = self.book()
        self.assertEqual(book.words + book.signs, ("x", "s", ","))
        self.assertEqual(book.tokens, ("x", "s", ",", "(", ")", "[", "]"))
        self.assertEqual(book.symbols, tuple(SYMBOLS))
        self.assertEqual((book.kinds, book.forms), (("doc", "group", "tuple", "list"), ("whole", "round", "list")))
        self.assertEqual([book.least(kind) for kind in book.kinds], ["x", "( x )", "( x , )", "[ ]"])
        self.assertEqual(list(book.texts(4)), [
            "x", "[ ]", "( x )", "[ x ]", "[ s ]", "( x , )", "( [ ] )", "[ x , ]", "[ s s ]", "[ s , ]", "[ [ ] ]",
        ])
        for form in (self.whole, self.round, self.list):
            machine = self.machine(form)
            found = book.machine(form.name)
            self.assertEqual((found.steps, found.ends), (machine.steps, machine.ends))

    def test_read(self):
        book = self.book()
        self.assertEqual(read(book, "( x , )").meaning, ("doc", (("item", ("tuple", (("item", "x"),))),)))
        with self.assertRaises(Refused) as caught:
            read(book, "( x x")
        error = caught.exception
        self.assertEqual((error.at, error.line, error.awaited), (2, 1, (",", ")")))
        reader = Reader(book)
        reader.feed_all("( x")
        self.assertEqual(reader.expected, (",", ")"))

    def test_survey(self):
        book = self.book()
        told = survey(book, Slips(Out(",")))
        self.assertEqual(told.rows, (
            ("out ,", (("list", "between"),), "refused", "[ x , x ]", 2),
            ("out ,", (("list", "between"),), "same", "[ x , ]", 2),
            ("out ,", (("list", "between"),), "other", "[ s , s ]", 2),
            ("out ,", (("round", "between"),), "refused", "( x , x )", 2),
            ("out ,", (("round", "between"),), "same", "( x , x , )", 4),
            ("out ,", (("round", "between"),), "other", "( x , )", 2),
        ))
        for rule, spots, wanted, text, place in told.rows:
            self.assertEqual(fate(book, text, rule_of(rule), place), wanted)
            self.assertEqual(spots_at(book, text, rule_of(rule), place), spots)


if __name__ == "__main__":
    unittest.main()
