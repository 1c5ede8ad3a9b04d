"""Meanings that another book cannot write: point 36."""

import unittest
from random import Random

from silentslips.books import Book
from silentslips.errors import Unwritten
from silentslips.forms import Form
from silentslips.patterns import nothing, one
from silentslips.reading import read
from silentslips.writing import Loss, is_loss, loss, write
from tests.told_books import example, good_books
from tests.told_comparing import ToldLoss, near_books

EXAMPLE = example().book()
X, Y, K, COMMA, SEMI = one("x", "item"), one("y", "item"), one("k", "item"), one(",", "between"), one(";", "end")


def small(*, doc=None, k=None, words=("x", "y"), signs=(",", ";"), brackets="()"):
    return Book(Form.whole(doc=(X | K) // COMMA if doc is None else doc), Form("f", *brackets, k=~X if k is None else k),
                words=list(words), signs=list(signs))


class Checked(unittest.TestCase):
    def check(self, book, other, text):
        """The loss, with this least text; and that its rows are the exact ones."""
        found = loss(book, other)
        self.assertIsInstance(found, Loss)
        self.assertEqual(found.text, text)
        self.assertIs(bool(found), text is None)
        self.check_exact(book, other, found)
        if text is not None:
            with self.assertRaises(Unwritten):
                write(other, read(book, text).meaning)
        return found

    def check_exact(self, book, other, found):
        self.assertIs(type(found.rows), tuple)
        self.assertEqual(found.rows, tuple(sorted(ToldLoss(book, other).exact())))
        self.assertIs(is_loss(book, other, found.rows), True)


class Losses(Checked):
    def test_nothing_is_lost(self):
        self.check(EXAMPLE, EXAMPLE, None)
        self.check(small(), small(), None)
        # Signs are no part of the meaning, and brackets and their order are none either.
        self.check(small(), small(doc=(X | K) << (COMMA | SEMI + SEMI)), None)
        self.check(small(), small(doc=~(COMMA + (X | K) + SEMI)), None)
        self.check(small(), small(brackets="[>"), None)
        self.check(small(), small(words=("y", "x"), signs=("!", ";", ",")), None)
        self.check(small(), small(doc=(X | K | Y) // COMMA, k=~(X | Y)), None)

    def test_fewer_rows(self):
        self.check(small(), small(doc=X | K), "x , x")
        self.check(small(), small(doc=(X | K) // COMMA, k=-X), "( x x )")
        self.check(small(), small(doc=(X // COMMA) | K), "x , ( )")
        self.check(small(), small(doc=(X | K) // COMMA, k=+X), "( )")

    def test_more_rows_in_the_other_book(self):
        self.check(small(doc=X | K), small(), None)
        self.check(small(), small(doc=-((X | K) // COMMA)), None)

    def test_other_roles(self):
        self.check(small(), small(doc=(one("x", "other") | K) // COMMA), "x")
        self.check(small(), small(doc=(X | one("k", "other")) // COMMA), "( )")
        self.check(small(), small(doc=(X | K) // one(",", "other")), None)
        both = one("x", "item") | one(",") + one("x", "other")
        self.check(small(k=both), small(k=both | SEMI + one("x", "third")), None)
        self.check(small(k=both | SEMI + one("x", "third")), small(k=both), "( ; x )")

    def test_a_kind_that_the_other_book_does_not_have(self):
        more = Book(Form.whole(doc=(X | K) // COMMA, all=SEMI), Form("f", "(", ")", k=~X), words=["x", "y"], signs=[",", ";"])
        found = self.check(more, small(), ";")
        self.assertIn(("all", 0, ()), found.rows)
        self.check(small(), more, None)
        self.check(small(), Book(Form.whole(doc=(X | one("m", "item")) // COMMA), Form("f", "(", ")", m=~X),
                                 words=["x", "y"], signs=[",", ";"]), "( )")
        self.check(small(), Book(Form.whole(all=(X | K) // COMMA), Form("f", "(", ")", k=~X), words=["x", "y"],
                                 signs=[",", ";"]), "x")

    def test_a_kind_that_the_other_book_has_in_the_whole_form(self):
        other = Book(Form.whole(doc=X // COMMA, k=SEMI + ~X), words=["x", "y"], signs=[",", ";"])
        found = self.check(small(), other, "( )")
        self.assertEqual([row for row in found.rows if row[0] == "k"], [("k", 0, ())])
        found = self.check(other, small(), ";")
        self.assertIn(("k", 0, ()), found.rows)

    def test_a_kind_of_another_form(self):
        """In which form of brackets a kind stands is no part of the meaning."""
        one_book = Book(Form.whole(doc=K | one("m", "item")), Form("f", "(", ")", k=X), Form("g", "[", "]", m=Y),
                        words=["x", "y"], signs=[])
        other = Book(Form.whole(doc=K | one("m", "item")), Form("f", "(", ")", m=Y), Form("g", "[", "]", k=X),
                     words=["x", "y"], signs=[])
        self.check(one_book, other, None)
        self.check(other, one_book, None)

    def test_a_word_as_a_sign(self):
        one_book = small(k=X + -Y, signs=(",", ";"))
        other = Book(Form.whole(doc=(X | K) // COMMA), Form("f", "(", ")", k=X + -Y), words=["x"], signs=[",", "y"])
        self.check(one_book, other, "( x y )")
        self.check(other, one_book, None)
        # A sign of the book that is a word of the other one: that book has to write it, too.
        self.check(other, small(k=X + Y), "( x )")

    def test_words_and_kinds_that_read_alike(self):
        one_book = Book(Form.whole(doc=one("k", "item") | X), words=["x", "k"], signs=[])
        other = Book(Form.whole(doc=K | X), Form("f", "(", ")", k=X), words=["x"], signs=[])
        self.check(one_book, other, "k")
        self.check(other, one_book, "( x )")

    def test_the_least_text(self):
        # The lost group stands in the least text around it, and its own row is the least lost one.
        one_book = Book(Form.whole(doc=X + K | K + COMMA), Form("f", "(", ")", k=-COMMA + ~X), words=["x"], signs=[",", ";"])
        self.check(one_book, Book(Form.whole(doc=X + K | K), Form("f", "(", ")", k=~(X * 2)), words=["x"], signs=[","]),
                   "x ( x )")
        for words, text in ((["x", "y"], "x"), (["y", "x"], "y")):
            self.check(Book(Form.whole(doc=X | Y), words=words, signs=[]), Book(Form.whole(all=X), words=["x"], signs=[]), text)

    def test_a_lost_group_deep_within(self):
        one_book = small(k=-X | K + COMMA + K)
        self.check(one_book, small(k=-X), "( ( ) , ( ) )")
        self.check(one_book, small(k=nothing() | K * 2), "( x )")
        deep = Book(Form.whole(doc=one("a", "r")), Form("f", "(", ")", a=one("b", "r"), b=one("c", "r"), c=-X), words=["x"],
                    signs=[])
        self.check(deep, Book(Form.whole(doc=one("a", "r")), Form("f", "(", ")", a=one("b", "r"), b=one("c", "r"), c=X),
                              words=["x"], signs=[]), "( ( ( ) ) )")

    def test_only_a_longer_text_is_lost(self):
        counted = Book(Form.whole(doc=~(X * 6)), words=["x"], signs=[])
        self.check(counted, Book(Form.whole(doc=~(X * 2)), words=["x"], signs=[]), None)
        self.check(counted, Book(Form.whole(doc=~(X * 4) | X * 6), words=["x"], signs=[]), " ".join("x" * 18))

    def test_the_empty_text(self):
        self.check(Book(Form.whole(doc=-X), words=["x"], signs=[]), Book(Form.whole(doc=X), words=["x"], signs=[]), "")
        found = loss(Book(Form.whole(doc=-X), words=["x"], signs=[]), Book(Form.whole(doc=X), words=["x"], signs=[]))
        self.assertIs(bool(found), False)

    def test_signs_in_many_ways(self):
        """The other book can be in several states at once."""
        other = small(k=~(X | COMMA + X + SEMI | SEMI + COMMA))
        found = self.check(small(), other, None)
        self.assertTrue(any(len(row[2]) > 2 for row in found.rows))


class AgainstAllTexts(Checked):
    def lost(self, texts, other):
        """The first of the texts, with their meanings, whose meaning the other book cannot write, or None."""
        for text, meaning in texts.items():
            try:
                write(other, meaning)
            except Unwritten:
                return text
        return None

    def test_many_books(self):
        random = Random(101)
        met = {"kept": 0, "lost": 0, "longer": 0}
        for told, book, other_told, other in near_books(random, good_books(random, 130, 7)):
            for here, one_book, other_book in ((told, book, other), (other_told, other, book)):
                found = loss(one_book, other_book)
                self.check_exact(one_book, other_book, found)
                wanted = self.lost({text: entry[1] for text, entry in here.texts(5).items()}, other_book)
                if found.text is not None and len(found.text.split()) > 5:
                    self.assertIsNone(wanted)
                    self.assertIsNotNone(self.lost({found.text: read(one_book, found.text).meaning}, other_book))
                    met["longer"] += 1
                else:
                    self.assertEqual(found.text, wanted, (here.forms, other_told.forms))
                    met["kept" if wanted is None else "lost"] += 1
        self.assertGreater(met["kept"], 60)
        self.assertGreater(met["lost"], 30)
        self.assertGreater(met["longer"], 1)


class IsLoss(unittest.TestCase):
    def setUp(self):
        self.one = Book(Form.whole(doc=(X | K | one("n", "item")) // COMMA), Form("f", "(", ")", k=X + -COMMA, m=one("k", "in")),
                        Form("g", "[", "]", n=one("m", "in") | Y), words=["x", "y"], signs=[",", ";"])
        self.other = Book(Form.whole(doc=(X | K) << (COMMA | SEMI), n=Y), Form("h", "(", ")", k=~(COMMA + X | SEMI | X + COMMA)),
                          words=["y", "x"], signs=[",", ";"])
        self.rows = loss(self.one, self.other).rows
        self.told = ToldLoss(self.one, self.other)

    def check(self, rows, wanted):
        self.assertIs(is_loss(self.one, self.other, rows), wanted, rows)

    def every(self):
        """All rows of the two books."""
        found = []
        for kind in self.one.kinds:
            partner = self.told.form(kind)
            states = range(len(self.other.machine(partner))) if partner else ()
            sets = [tuple(state for state in states if many >> state & 1) for many in range(1 << len(states))]
            found += [(kind, p, some) for p in range(len(self.one.machine(self.one.form_of(kind)))) for some in sets]
        return found

    def test_the_rows_themselves(self):
        self.assertGreater(len(self.rows), 10)
        self.assertGreater(max(len(row[2]) for row in self.rows), 2)
        for make in (tuple, list, lambda rows: rows[::-1], lambda rows: rows * 2, lambda rows: [*rows, rows[0]]):
            self.check(make(self.rows), True)
        self.assertTrue(is_loss(rows=self.rows, other=self.other, book=self.one))

    def test_one_less(self):
        for at in range(len(self.rows)):
            self.check(self.rows[:at] + self.rows[at + 1:], False)
        self.check((), False)
        self.check([], False)

    def test_more_rows(self):
        met = {True: 0, False: 0}
        for row in self.every():
            wanted = self.told.fulfils({*self.rows, row})
            met[wanted] += row not in self.rows
            self.check([*self.rows, row], wanted)
        self.assertGreater(min(met.values()), 3)
        self.check(self.every(), True)

    def wrong(self, row):
        kind, state, states = row
        yield from (list(row), row[:-1], (*row, ()), (row,), [row], str(row), None, 0, True, "", ())
        for other in (None, True, False, "?", "", "x", "m ", 0, (), [], ("k",), ["k"], "whole", "f"):
            yield (other, state, states)
        for other in (None, True, False, -1, 99, 10 ** 29, "0", (), [0], (0,)):
            yield (kind, other, states)
        for other in (None, True, False, 0, "", list(states), [0], {}, (True,), (False,), (None,), ("0",), ((0,),), (-1,), (99,),
                      (0, 0), (1, 0), (0, 2, 1), (0, 10 ** 29), states * 2 + (0, 0)):
            yield (kind, state, other)

    def test_values_that_are_no_rows(self):
        many = 0
        for row in self.rows:
            for other in self.wrong(row):
                self.check([*self.rows, other], False)
                self.check([other, *self.every()], False)
                many += 1
        self.assertGreater(many, 400)

    def test_no_states_where_the_other_book_has_no_such_kind(self):
        every = self.every()
        for row in (("m", 0, (0,)), ("n", 0, (0,)), ("n", 1, (0, 1))):
            self.check([*every, row], False)
        self.assertIn(("m", 0, ()), self.rows)
        self.assertIn(("n", 0, ()), self.rows)

    def test_true_in_the_place_of_one(self):
        for at, (kind, state, states) in enumerate(self.rows):
            swapped = tuple(bool(there) if there < 2 else there for there in states)
            for wrong in ((kind, bool(state), states), (kind, state, swapped)):
                if wrong == self.rows[at] and repr(wrong) != repr(self.rows[at]):
                    self.check([*self.rows[:at], wrong, *self.rows[at + 1:]], False)
                    self.check([*self.rows, wrong], False)

    def test_a_state_from_which_the_kind_does_not_come_up(self):
        """Such a row leads to nothing, so it may always stand there."""
        machine = self.one.machine("f")
        state = machine.go(0, "x")[1]
        self.assertNotIn("m", machine.reach(state))
        self.check([*self.rows, ("m", state, ())], True)

    def test_a_state_that_the_form_does_not_have(self):
        for kind in self.one.kinds:
            most = len(self.one.machine(self.one.form_of(kind)))
            for state in (-1, most, most + 1):
                self.check([*self.every(), (kind, state, ())], False)
            partner = self.told.form(kind)
            if partner is not None:
                self.check([*self.every(), (kind, 0, (len(self.other.machine(partner)),))], False)

    def test_values_that_are_no_lists(self):
        deep = ()
        for _ in range(158):
            deep = (deep,)
        for wrong in (None, True, 0, 1, "", "rows", {}, self.rows[0], deep, [deep], [[]], self.one, (self.rows,)):
            self.check(wrong, False)

    def test_many_books(self):
        random = Random(102)
        for _, book, _, other in near_books(random, good_books(random, 30, 6)):
            rows = loss(book, other).rows
            self.assertTrue(is_loss(book, other, list(rows)))
            for at in range(len(rows)):
                self.assertFalse(is_loss(book, other, [*rows[:at], *rows[at + 1:]]))


class Interface(unittest.TestCase):
    def test_defined_in_the_file_itself(self):
        for thing in (loss, Loss, is_loss):
            self.assertEqual(thing.__module__, "silentslips.writing")
        self.assertIn("__bool__", vars(Loss))
        self.assertIsNone(loss(other=EXAMPLE, book=EXAMPLE).text)

    def test_kinds_of_values(self):
        for row in loss(EXAMPLE, EXAMPLE).rows:
            self.assertEqual([type(part) for part in row], [str, int, tuple])


if __name__ == "__main__":
    unittest.main()
