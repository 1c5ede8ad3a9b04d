"""Tables: points 26 and 28, and what tells them from other values."""

import unittest
from random import Random

from silentslips.books import Book
from silentslips.forms import Form
from silentslips.patterns import one
from silentslips.rules import Out, Slips, Swapped, Taken, Twice, rule_of
from silentslips.tables import Table, direct, is_table, spots_of, table
from tests.told_books import all_rules, example, good_books
from tests.told_cases import ToldCases, fates

EXAMPLE = example().book()
RULE = Out(",")
SPOTS = (("round", "between"),)
# What a comma that is left out in ( ) makes of groups, and whether their meaning can stay, or change, by it.
CHANGED = {
    ("doc", ""): [False], ("doc", "doc"): [False, True], ("group", ""): [False], ("group", "group"): [False, True],
    ("list", ""): [False], ("list", "list"): [False, True], ("tuple", ""): [False], ("tuple", "group"): [False],
    ("tuple", "tuple"): [False, True],
}


def deep(value, make):
    for _ in range(158):
        value = make(value)
    return value


def wrong_forms(entry):
    """Values that look like a pair or a change and are none: no such shape, or True or False in the place of 1 or 0."""
    yield from (list(entry), entry[:-1], (*entry, True), (*entry, 1), (entry,), [entry], str(entry), (*entry[:-1], None))
    yield (*entry[:-1], int(entry[-1]))
    for at, part in enumerate(entry):
        if isinstance(part, int) and not isinstance(part, bool) and part in (0, 1):
            yield (*entry[:at], bool(part), *entry[at + 1:])
        for other in (None, "", "?", [], (), (part,), [part], -2, 10 ** 29, -10 ** 29, 99, "Whole", "x", ","):
            if other != part:
                yield (*entry[:at], other, *entry[at + 1:])
    yield from (deep(entry, lambda value: (value,)), deep(entry, lambda value: [value]))


def is_entry(book, thing):
    """Whether a value is a pair or a change."""
    if type(thing) is not tuple or len(thing) not in (3, 4) or type(thing[0]) is not str or type(thing[-1]) is not bool:
        return False
    if len(thing) == 3:
        form = book.form_named(book.form_of(thing[0])) if thing[0] in book.kinds else ()
        return thing[0] in form and (thing[1] == "" or thing[1] in form) and (not thing[2] or thing[0] == thing[1])
    states = len(book.machine(thing[0])) if thing[0] in book.forms else 0
    if not type(thing[1]) is type(thing[2]) is int:
        return False
    return 0 <= thing[1] < states and -1 <= thing[2] < states and (thing[2] != -1 or not thing[3])


class Example(unittest.TestCase):
    def test_a_table(self):
        told = table(EXAMPLE, RULE, SPOTS)
        self.assertEqual(told.changes, tuple(sorted(
            (kind, after, alike) for kind, after in CHANGED for alike in (False, True) if alike in CHANGED[kind, after])))
        self.assertEqual(told.fates, ("refused", "same", "other"))
        self.assertIn(("round", 2, 1, True), told.pairs)
        for entries in (told.pairs, told.changes, told.fates):
            self.assertIs(type(entries), tuple)
        self.assertEqual(list(told.pairs), sorted(set(told.pairs)))
        self.assertEqual(list(told.changes), sorted(set(told.changes)))
        self.assertEqual(len(told), len(told.pairs) + len(told.changes))

    def test_fates(self):
        for rule, spots, wanted in (
            (Out("x"), (("whole", "item"),), ("refused",)), (Out("s"), (("list", "joined"),), ("other",)),
            (Taken("x", "s"), (("list", "item"),), ("other",)), (Twice("["), (("list", "open"),), ("refused",)),
            (Swapped("[", "("), (("list", "open"), ("round", "open")), ("refused",)),
            (Swapped(")", ","), (("round", "close"), ("list", "between")), ("refused", "same", "other")),
        ):
            self.assertEqual(table(EXAMPLE, rule, spots).fates, wanted)

    def test_a_fate_alone(self):
        book = Book(Form.whole(doc=one("x") + ~one(",")), words=["x"], signs=[","])
        for rule in (Out(","), Twice(",")):
            self.assertEqual(table(book, rule, (("whole", "plain"),)).fates, ("same",))
        self.assertEqual(table(book, Out("x"), (("whole", "plain"),)).fates, ("refused",))

    def test_by_name(self):
        self.assertEqual(table(spots=SPOTS, book=EXAMPLE, rule=RULE), table(EXAMPLE, RULE, SPOTS))
        told = table(EXAMPLE, RULE, SPOTS)
        self.assertTrue(is_table(changes=told.changes, pairs=told.pairs, spots=SPOTS, rule=RULE, book=EXAMPLE))


class LeastClosedSets(unittest.TestCase):
    """All tables of many small books, held against a slow closure of the direct pairs."""

    def test_many_books(self):
        met = {}
        for told, book in good_books(Random(44), 60, 8):
            cases = ToldCases(book)
            for rule in Slips.every(book).rules:
                for spots, pairs in cases.direct(tuple(str(rule).split(" "))).items():
                    found = table(book, rule, spots)
                    wanted = cases.closure(pairs)
                    self.assertEqual(found.pairs, tuple(sorted(entry for entry in wanted if len(entry) == 4)))
                    self.assertEqual(found.changes, tuple(sorted(entry for entry in wanted if len(entry) == 3)))
                    self.assertEqual(found.fates, fates(book, wanted))
                    met[found.fates] = met.get(found.fates, 0) + 1
        self.assertEqual(len(met), 7)


class Containing(unittest.TestCase):
    def setUp(self):
        self.table = table(EXAMPLE, RULE, SPOTS)

    def test_its_pairs_and_changes(self):
        for entry in (*self.table.pairs, *self.table.changes):
            self.assertIn(entry, self.table)
            self.assertIs(entry in self.table, True)

    def test_others(self):
        for entry in (*self.table.pairs, *self.table.changes):
            for other in wrong_forms(entry):
                known = any(type(other) is tuple and repr(other) == repr(told)
                            for told in (*self.table.pairs, *self.table.changes))
                self.assertIs(other in self.table, known, other)
            flipped = (*entry[:-1], not entry[-1])
            self.assertIs(flipped in self.table, flipped in (*self.table.pairs, *self.table.changes))

    def test_any_values(self):
        for other in (None, True, False, 0, 1, -1, 10 ** 29, "", "whole", [], (), (()), ((), (), ()), [[]], RULE, SPOTS,
                      self.table, EXAMPLE, (None,) * 3, (None,) * 4, (1, 1, True), ("whole",) * 4, ("doc",) * 3):
            self.assertIs(other in self.table, False)


class Equality(unittest.TestCase):
    def test_equal(self):
        told = table(EXAMPLE, RULE, SPOTS)
        self.assertTrue(told == table(EXAMPLE, RULE, SPOTS))
        self.assertFalse(told != table(example().book(), Out(","), SPOTS))
        self.assertIsInstance(told, Table)

    def test_two_cases_with_one_table(self):
        x = one("x") + ~one(",")
        book = Book(Form.whole(doc=x), words=["x"], signs=[","])
        spots = (("whole", "plain"),)
        self.assertTrue(table(book, Out(","), spots) == table(book, Twice(","), spots))

    def test_the_same_pairs_or_changes_alone(self):
        x, spots = one("x") + ~one(","), (("whole", "plain"),)
        books = [Book(Form.whole_of([(kind, pattern)]), words=["x"], signs=[","])
                 for kind, pattern in (("doc", x), ("all", x), ("doc", one(",") + x))]
        told = [table(book, Twice(","), spots) for book in books]
        self.assertEqual(told[0].pairs, told[1].pairs)
        self.assertFalse(told[0] == told[1])
        told = [table(books[0], rule, spots) for rule in (Taken(",", "?"), Out("x"), Twice("x"))]
        self.assertEqual(told[0].changes, told[1].changes)
        self.assertFalse(told[0] == told[1])
        self.assertTrue(told[0] == told[2])

    def test_different(self):
        told = table(EXAMPLE, RULE, SPOTS)
        self.assertFalse(told == table(EXAMPLE, RULE, (("list", "between"),)))
        self.assertTrue(told != table(EXAMPLE, Twice(","), SPOTS))
        for other in (None, 0, True, told.pairs, told.changes, (told.pairs, told.changes), [], "", RULE, EXAMPLE):
            self.assertFalse(told == other)


class IsTable(unittest.TestCase):
    def check(self, pairs, changes, wanted):
        self.assertIs(is_table(EXAMPLE, RULE, SPOTS, pairs, changes), wanted, (pairs, changes))

    def setUp(self):
        self.table = table(EXAMPLE, RULE, SPOTS)
        self.pairs, self.changes = self.table.pairs, self.table.changes

    def test_the_table_itself(self):
        for make in (tuple, list, lambda entries: entries[::-1], lambda entries: entries * 2,
                     lambda entries: [*entries, entries[0]]):
            self.check(make(self.pairs), self.changes, True)
            self.check(self.pairs, make(self.changes), True)
            self.check(make(self.pairs), make(self.changes), True)

    def test_one_entry_less(self):
        for at in range(len(self.pairs)):
            self.check(self.pairs[:at] + self.pairs[at + 1:], self.changes, False)
        for at in range(len(self.changes)):
            self.check(self.pairs, self.changes[:at] + self.changes[at + 1:], False)
        self.check((), (), False)
        self.check(self.pairs, [], False)
        self.check([], self.changes, False)
        self.check(self.changes, self.pairs, False)

    def test_more_entries(self):
        cases = ToldCases(EXAMPLE)
        every = [(form, p, q, alike) for form in EXAMPLE.forms for p in range(len(EXAMPLE.machine(form)))
                 for q in range(-1, len(EXAMPLE.machine(form))) for alike in (False, True) if q != -1 or not alike]
        every += [(kind, after, alike) for form in EXAMPLE.forms for kind in EXAMPLE.form_named(form).kinds
                  for after in (*EXAMPLE.form_named(form).kinds, "") for alike in (False, True)
                  if kind == after or not alike]
        own = set(self.pairs + self.changes)
        met = {True: 0, False: 0}
        for entry in every:
            given = own | {entry}
            wanted = cases.is_closed(given)
            met[wanted] += entry not in own
            self.check([told for told in given if len(told) == 4], [told for told in given if len(told) == 3], wanted)
            given = cases.closure(given)
            self.check([told for told in given if len(told) == 4], [told for told in given if len(told) == 3], True)
        self.assertGreater(min(met.values()), 3)
        self.check([entry for entry in every if len(entry) == 4], [entry for entry in every if len(entry) == 3], True)

    def test_entries_that_are_none(self):
        many = 0
        for entry in (*self.pairs, *self.changes):
            for other in wrong_forms(entry):
                if not is_entry(EXAMPLE, other):
                    self.check([*self.pairs, other], self.changes, False)
                    self.check(self.pairs, (other, *self.changes), False)
                    many += 1
        self.assertGreater(many, 1000)
        for pair, change in zip(self.pairs, self.changes):
            self.check([*self.pairs, change], self.changes, False)
            self.check(self.pairs, [*self.changes, pair], False)

    def test_true_in_the_place_of_one(self):
        """Entries that equal those of the table, as Python compares."""
        for at, (form, state, other, alike) in enumerate(self.pairs):
            for wrong in ((form, state, other, int(alike)), (form, bool(state), other, alike),
                          (form, state, bool(other), alike)):
                if wrong == self.pairs[at]:
                    self.check(self.pairs[:at] + (wrong,) + self.pairs[at + 1:], self.changes, False)
                    self.check(self.pairs + (wrong,), self.changes, False)
        for at, (kind, after, alike) in enumerate(self.changes):
            wrong = (kind, after, int(alike))
            self.check(self.pairs, self.changes[:at] + (wrong,) + self.changes[at + 1:], False)
            self.check(self.pairs, (wrong,) + self.changes, False)

    def test_what_says_true_where_it_may_not(self):
        for pair in (("whole", 0, -1, True), ("round", 3, -1, True)):
            self.check([*self.pairs, pair], self.changes, False)
        for change in (("group", "tuple", True), ("tuple", "", True), ("doc", "", True)):
            self.check(self.pairs, [*self.changes, change], False)

    def test_kinds_of_another_form(self):
        for change in (("group", "list", False), ("list", "doc", False), ("doc", "tuple", False), ("?", "", False),
                       ("group", "?", False), ("", "", False), ("round", "round", True), ("x", "x", True)):
            self.check(self.pairs, [*self.changes, change], False)

    def test_values_that_are_no_lists(self):
        for wrong in (None, True, 0, 1, "", "whole", {}, self.pairs[0], self.table, "pairs", SPOTS,
                      deep((), lambda value: (value,)), deep([], lambda value: [value])):
            self.check(wrong, self.changes, False)
            self.check(self.pairs, wrong, False)

    def test_the_table_of_another_case(self):
        other = table(EXAMPLE, RULE, (("list", "between"),))
        self.check(other.pairs, other.changes, False)
        self.check(other.pairs + self.pairs, other.changes + self.changes, True)

    def test_many_books(self):
        random = Random(45)
        for _, book in good_books(random, 25, 7):
            cases = ToldCases(book)
            for rule in random.sample(Slips.every(book).rules, min(8, len(Slips.every(book)))):
                for spots in spots_of(book, rule):
                    told = table(book, rule, spots)
                    self.assertTrue(is_table(book, rule, spots, list(told.pairs), told.changes))
                    for at, pair in enumerate(told.pairs):
                        less = [*told.pairs[:at], *told.pairs[at + 1:]]
                        self.assertFalse(is_table(book, rule, spots, less, told.changes))
                    self.assertTrue(cases.is_closed({*told.pairs, *told.changes}))


class NewEachTime(unittest.TestCase):
    def test_direct(self):
        told = direct(EXAMPLE, RULE, SPOTS)
        told.clear()
        self.assertNotEqual(direct(EXAMPLE, RULE, SPOTS), [])

    def test_arguments_stay(self):
        told = table(EXAMPLE, RULE, SPOTS)
        pairs, changes = list(told.pairs), list(told.changes)
        self.assertTrue(is_table(EXAMPLE, RULE, SPOTS, pairs, changes))
        self.assertEqual((tuple(pairs), tuple(changes)), (told.pairs, told.changes))


class Interface(unittest.TestCase):
    def test_defined_in_the_file_itself(self):
        for thing in (spots_of, direct, table, Table, is_table):
            self.assertEqual(thing.__module__, "silentslips.tables")
        for name in ("fates", "__contains__", "__len__", "__eq__"):
            self.assertIn(name, vars(Table))
        self.assertIsInstance(vars(Table)["fates"], property)

    def test_rules_by_their_texts(self):
        for rule in all_rules(EXAMPLE.tokens):
            self.assertEqual(spots_of(EXAMPLE, rule_of(" ".join(rule))), sorted(ToldCases(EXAMPLE).direct(rule)))


if __name__ == "__main__":
    unittest.main()
