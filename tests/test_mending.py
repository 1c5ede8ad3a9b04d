"""Changes of a book, and the least sets of them after which nothing is silent or lost: points 37 and 38."""

import unittest
from itertools import combinations
from random import Random

from silentslips.books import Book
from silentslips.comparing import reads_alike
from silentslips.errors import Ambiguous, BadBook, Clash, SlipError, Unknown, Unused, Unwritable
from silentslips.forms import Form
from silentslips.mending import Change, changed, mends, why_not
from silentslips.patterns import one
from silentslips.rules import Out, Slips, Swapped, Taken, Twice, rule_of
from silentslips.slipping import fate
from silentslips.surveys import survey
from silentslips.writing import loss
from tests.told import any_told, build
from tests.told_books import ROLES, example, good_books

EXAMPLE = example().book()
X, Y, COMMA, SEMI = one("x", "item"), one("y", "item"), one(",", "between"), one(";", "end")
A, B, C = one("a", "r"), one("b", "r"), one("c", "r")
OUT = Slips(Out(","))
NONE = Slips()
BOOK = Book(Form.whole(doc=A | B), Form("f", "(", ")", a=X, b=X + COMMA), words=["x", "y"], signs=[",", ";"])
WIDE = Book(Form.whole(doc=A | B | C), Form("f", "(", ")", a=X, b=X + COMMA, c=X + SEMI), words=["x", "y"], signs=[",", ";"])
# Each of these alone mends BOOK for the comma; the last two do not together.
TWO, MARK, THREE = Change("b", X + COMMA * 2), Change("a", X + SEMI), Change("a", X + COMMA * 3)


class Changes(unittest.TestCase):
    def test_what_it_has(self):
        self.assertEqual(TWO.kind, "b")
        self.assertTrue(TWO.pattern == X + COMMA * 2)
        told = Change(pattern=Y, kind="a")
        self.assertEqual(told.kind, "a")
        self.assertTrue(told.pattern == Y)

    def test_called(self):
        for made in (TWO(BOOK), TWO(book=BOOK), changed(BOOK, [TWO])):
            self.assertIsInstance(made, Book)
            self.assertEqual(list(made.texts(5)), ["( x )", "( x , , )"])
        self.assertEqual(list(BOOK.texts(5)), ["( x )", "( x , )"])

    def test_what_calls_raise(self):
        for change, error in ((Change("d", X), Unknown), (Change("b", X), Ambiguous), (Change("b", one("z")), BadBook),
                              (Change("b", B), Unwritable), (Change("doc", A), Unused)):
            with self.assertRaises(error):
                change(BOOK)
        with self.assertRaises(Unknown) as caught:
            Change("", X)(BOOK)
        self.assertEqual(caught.exception.name, "")


class Changed(unittest.TestCase):
    def test_no_change(self):
        for changes in ([], ()):
            made = changed(BOOK, changes)
            self.assertTrue(reads_alike(made, BOOK))
            self.assertEqual(made.tokens, BOOK.tokens)

    def test_all_else_stays(self):
        made = changed(WIDE, [Change("b", X + COMMA * 2), Change("doc", -A | B | C)])
        for name in ("words", "signs", "tokens", "symbols", "kinds", "forms"):
            self.assertEqual(getattr(made, name), getattr(WIDE, name))
        for kind in WIDE.kinds:
            self.assertEqual(made[kind] == WIDE[kind], kind in ("a", "c"))
            self.assertEqual(made.form_of(kind), WIDE.form_of(kind))
        for name in WIDE.forms:
            old, new = WIDE.form_named(name), made.form_named(name)
            self.assertEqual((new.name, new.opener, new.closer, new.kinds, new.is_whole),
                             (old.name, old.opener, old.closer, old.kinds, old.is_whole))

    def test_several_at_once(self):
        made = changed(changes=[Change("a", X + COMMA), Change("b", X)], book=BOOK)
        self.assertTrue(made["a"] == BOOK["b"] and made["b"] == BOOK["a"])
        # One after the other they would be ambiguous.
        with self.assertRaises(Ambiguous):
            changed(BOOK, [Change("a", X + COMMA)])

    def test_kinds_of_the_whole_form(self):
        made = Change("doc", A + B)(BOOK)
        self.assertEqual(list(made.texts(8)), ["( x ) ( x , )"])
        self.assertTrue(made.form_named("whole").is_whole)

    def test_unknown_comes_first(self):
        for changes, name in (([Change("d", X)], "d"), ([TWO, TWO, Change("e", X), Change("d", X)], "e"),
                              ([Change("b", one("z")), Change("whole", X)], "whole"), ([Change("x", X)], "x"),
                              ([Change("f", X)], "f")):
            with self.assertRaises(Unknown) as caught:
                changed(BOOK, changes)
            self.assertEqual(caught.exception.name, name)

    def test_clash_comes_second(self):
        bad = Change("b", one("z"))
        for changes, kind in (([TWO, TWO], "b"), ([bad, MARK, THREE, bad], "a"), ([bad, MARK, bad, MARK], "b"),
                              ([Change("doc", A), Change("doc", A)], "doc")):
            with self.assertRaises(Clash) as caught:
                changed(BOOK, changes)
            self.assertEqual(caught.exception.kind, kind)

    def test_then_what_a_book_refuses(self):
        with self.assertRaises(BadBook) as caught:
            changed(BOOK, [MARK, Change("b", one("z"))])
        self.assertEqual((caught.exception.what, caught.exception.worth), ("symbol", "z"))
        with self.assertRaises(Ambiguous) as caught:
            changed(BOOK, [Change("b", X + -COMMA)])
        self.assertEqual((caught.exception.form, caught.exception.row), ("f", ("x",)))
        with self.assertRaises(Unwritable) as caught:
            changed(BOOK, [Change("b", X + B)])
        self.assertEqual(caught.exception.kind, "b")
        with self.assertRaises(Unused) as caught:
            changed(BOOK, [Change("doc", B)])
        self.assertEqual(caught.exception.kind, "a")


class WhyNot(unittest.TestCase):
    def check(self, book, slips, changes, wanted):
        self.assertEqual(why_not(book, slips, changes), wanted)
        self.assertEqual(why_not(changes=tuple(changes), slips=slips, book=book), wanted)

    def test_right(self):
        for changes in ([TWO], [MARK], [THREE], [TWO, MARK]):
            self.check(BOOK, OUT, changes, None)
        self.check(BOOK, NONE, [], None)
        self.check(BOOK, Slips(Twice(",")), [], None)

    def test_clash(self):
        self.check(BOOK, OUT, [TWO, TWO], ("clash", "b"))
        self.check(BOOK, OUT, [TWO, MARK, THREE], ("clash", "a"))
        self.check(BOOK, NONE, [MARK, TWO, TWO, MARK], ("clash", "b"))

    def test_broken(self):
        for pattern, name in ((one("z"), "BadBook"), (X, "Ambiguous"), (B, "Unwritable")):
            self.check(BOOK, OUT, [Change("b", pattern)], ("broken", name))
        self.check(BOOK, OUT, [Change("doc", A)], ("broken", "Unused"))

    def test_lost(self):
        self.check(BOOK, OUT, [Change("b", Y + COMMA)], ("lost", "( x , )"))
        self.check(BOOK, NONE, [Change("a", Y)], ("lost", "( x )"))
        self.check(BOOK, NONE, [Change("doc", A + B)], ("lost", "( x )"))
        # Other signs and more meanings lose nothing.
        self.check(BOOK, NONE, [Change("b", X + SEMI | Y)], None)

    def test_silent(self):
        self.check(BOOK, OUT, [], ("silent", "out ,", "( x , )", 2))
        self.check(BOOK, OUT, [TWO, THREE], ("silent", "out ,", "( x , , , )", 2))
        # The first silent rule of the set, in its order, with the least text of all its cases.
        slips = Slips(Taken("s", "x"), Swapped(",", "s"), Out(","), Twice(","), Out("("), Out("s"))
        self.check(EXAMPLE, slips, [], ("silent", "out ,", "( x , )", 2))
        self.check(EXAMPLE, slips - Slips(Out(",")), [], ("silent", "out s", "[ s ]", 1))
        self.check(EXAMPLE, Slips(Out("("), Taken("s", "x")), [], ("silent", "taken s x", "[ s ]", 1))

    def test_silent_as_a_survey_tells(self):
        for rule in Slips.every(EXAMPLE).rules:
            told = survey(EXAMPLE, Slips(rule)).least(rule, "other")
            self.check(EXAMPLE, Slips(rule), [], None if told is None else ("silent", str(rule), *told))

    def test_two_that_apply_at_once(self):
        bad = Change("b", one("z"))
        self.check(BOOK, OUT, [bad, bad], ("clash", "b"))
        self.check(BOOK, OUT, [bad, Change("a", Y)], ("broken", "BadBook"))
        self.check(BOOK, OUT, [Change("a", Y), Change("b", Y + COMMA)], ("lost", "( x )"))

    def test_unknown_comes_first(self):
        for changes, name in (([Change("d", X)], "d"), ([TWO, TWO, Change("e", X), Change("d", X)], "e")):
            with self.assertRaises(Unknown) as caught:
                why_not(BOOK, OUT, changes)
            self.assertEqual(caught.exception.name, name)

    def test_arguments_stay(self):
        changes = [TWO, MARK]
        why_not(BOOK, OUT, changes)
        self.assertEqual(changes, [TWO, MARK])


class Mends(unittest.TestCase):
    def check(self, book, slips, pool, wanted):
        found = mends(book, slips, *pool)
        self.assertEqual(found, wanted)
        self.assertIs(type(found), list)
        self.assertTrue(all(type(indexes) is tuple for indexes in found))

    def test_right_as_it_is(self):
        for pool in ([], [TWO], [TWO, MARK, THREE], [Change("b", one("z"))]):
            self.check(BOOK, NONE, pool, [()])
            self.check(BOOK, Slips(Out("x"), Twice(",")), pool, [()])

    def test_nothing_is_right(self):
        for pool in ([], [Change("b", one("z"))], [Change("a", Y), Change("b", Y)], [Change("doc", A | B | SEMI)]):
            self.check(BOOK, OUT, pool, [])

    def test_one_change(self):
        self.check(BOOK, OUT, [TWO], [(0,)])
        self.check(BOOK, OUT, [Change("a", Y), TWO], [(1,)])
        self.check(BOOK, OUT, [TWO, MARK], [(0,), (1,)])

    def test_right_alone_and_not_together(self):
        self.assertIsNotNone(why_not(BOOK, OUT, [TWO, THREE]))
        self.check(BOOK, OUT, [TWO, THREE], [(0,), (1,)])
        self.check(BOOK, OUT, [TWO, TWO], [(0,), (1,)])

    def test_right_only_together(self):
        slips = Slips(Out(","), Out(";"))
        comma, semi = Change("b", X + COMMA * 2), Change("c", X + SEMI * 2)
        self.check(WIDE, slips, [comma, semi], [(0, 1)])
        self.check(WIDE, slips, [semi], [])
        # A second way for one of them; and one for both.
        self.check(WIDE, slips, [comma, Change("b", X + COMMA * 3), semi], [(0, 2), (1, 2)])
        both = Change("a", X + COMMA + SEMI + COMMA + SEMI)
        self.check(WIDE, slips, [comma, semi, both], [(2,), (0, 1)])
        self.check(WIDE, slips, [both, comma, semi, Change("a", one("z"))], [(0,), (1, 2)])

    def test_a_change_that_is_broken_alone(self):
        """The first change alone is ambiguous, the second one alone is silent."""
        pool = [Change("a", X + COMMA), Change("b", X + SEMI)]
        slips = Slips(Out(","), Out(";"))
        self.assertEqual(why_not(BOOK, slips, pool[:1]), ("broken", "Ambiguous"))
        self.assertEqual(why_not(BOOK, slips, pool[1:]), ("silent", "out ;", "( x ; )", 2))
        self.check(BOOK, slips, pool, [(0, 1)])
        self.check(BOOK, OUT, pool, [(1,)])
        self.check(BOOK, slips, [Change("a", X + COMMA), Change("b", X)], [])

    def test_three_and_four_changes(self):
        signs = {kind: one(sign) for kind, sign in zip("abcd", ",;!:")}
        kinds = {kind: X + sign for kind, sign in signs.items()}
        book = Book(Form.whole(doc=one("e") | one("a") | one("b") | one("c") | one("d")), Form("f", "(", ")", e=X, **kinds),
                    words=["x"], signs=[",", ";", "!", ":"])
        pool = [Change(kind, X + sign * 2) for kind, sign in signs.items()]
        slips = Slips(Out(","), Out(";"), Out("!"), Out(":"))
        self.check(book, slips, pool, [(0, 1, 2, 3)])
        self.check(book, slips, pool[:3], [])
        self.check(book, slips - Slips(Out(":")), pool, [(0, 1, 2)])
        self.check(book, slips - Slips(Out(";"), Out(":")), pool, [(0, 2)])

    def test_unknown(self):
        for pool, name in (([Change("d", X)], "d"), ([TWO, TWO, Change("e", X), Change("d", X)], "e")):
            for slips in (OUT, NONE):
                with self.assertRaises(Unknown) as caught:
                    mends(BOOK, slips, *pool)
                self.assertEqual(caught.exception.name, name)

    def right(self, book, slips, changes):
        """Whether the changes are right, by the words of point 38."""
        try:
            after = changed(book, changes)
        except SlipError:
            return False
        return bool(loss(book, after)) and bool(survey(after, slips))

    def test_many_books(self):
        random = Random(111)
        met = {}
        for told, book in good_books(random, 150, 6):
            rules = [rule for rule in Slips.every(book).rules if not survey(book, Slips(rule))]
            slips = Slips.of(random.sample(rules, min(len(rules), 2)))
            steps = [(symbol, role) for symbol in book.symbols for role in ROLES]
            pool = [Change(kind, build(any_told(random, steps, 3))) for kind in random.choices(book.kinds, k=2)] if steps else []
            pool += [Change(kind, book[kind] + one(token) + one(token)) for kind in random.choices(book.kinds, k=1)
                     for token in book.signs[:1]]
            sets = [indexes for many in range(len(pool) + 1) for indexes in combinations(range(len(pool)), many)]
            right = [set(indexes) for indexes in sets if self.right(book, slips, [pool[at] for at in indexes])]
            wanted = [indexes for indexes in sets if set(indexes) in right and not any(one_set < set(indexes) for one_set in right)]
            self.check(book, slips, pool, wanted)
            for indexes in sets:
                found = why_not(book, slips, [pool[at] for at in indexes])
                self.assertEqual(found is None, set(indexes) in right)
                self.check_reason(book, slips, [pool[at] for at in indexes], found)
                met[found and found[0]] = met.get(found and found[0], 0) + 1
        for key in (None, "clash", "broken", "lost", "silent"):
            self.assertGreater(met[key], 5, key)

    def check_reason(self, book, slips, changes, reason):
        if reason is not None and reason[0] == "lost":
            self.assertEqual(reason[1], loss(book, changed(book, changes)).text)
        if reason is not None and reason[0] == "silent":
            _, rule, text, place = reason
            after = changed(book, changes)
            told = survey(after, slips)
            self.assertEqual(rule, str(told.silent().rules[0]))
            self.assertEqual((text, place), told.least(rule_of(rule), "other"))
            self.assertEqual(fate(after, text, rule_of(rule), place), "other")


class Interface(unittest.TestCase):
    def test_defined_in_the_file_itself(self):
        for thing in (Change, changed, why_not, mends):
            self.assertEqual(thing.__module__, "silentslips.mending")
        self.assertIn("__call__", vars(Change))

    def test_new_lists(self):
        told = mends(BOOK, OUT, TWO, MARK)
        told.clear()
        self.assertEqual(mends(BOOK, OUT, TWO, MARK), [(0,), (1,)])


if __name__ == "__main__":
    unittest.main()
