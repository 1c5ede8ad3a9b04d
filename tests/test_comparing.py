"""Two books beside each other: points 33 and 34."""

import unittest
from random import Random

from silentslips.books import Book
from silentslips.comparing import Comparison, compare, is_comparison, reads_alike
from silentslips.errors import Uneven
from silentslips.forms import Form
from silentslips.patterns import nothing, one
from silentslips.reading import read
from tests.told_books import example, good_books
from tests.told_comparing import ToldComparison, near_books

EXAMPLE = example().book()
X, Y, K, COMMA, SEMI = one("x", "item"), one("y", "item"), one("k", "item"), one(",", "between"), one(";", "end")


def small(*, doc=None, k=None, name="f", opener="(", closer=")", words=("x", "y"), signs=(",", ";"), kind="k"):
    """A book with one form; what is not told is as usual."""
    group = one(kind, "item")
    return Book(Form.whole(doc=(X | group) // COMMA if doc is None else doc),
                Form.of(name, opener, closer, [(kind, ~X if k is None else k)]), words=list(words), signs=list(signs))


class Checked(unittest.TestCase):
    def check(self, one_book, other, text):
        """The comparison, with this least text that tells the books apart; and that it is the exact one."""
        found = compare(one_book, other)
        self.assertIsInstance(found, Comparison)
        self.assertEqual(found.text, text)
        self.assertIs(bool(found), text is None)
        self.check_exact(one_book, other, found)
        if text is not None:
            self.assertIn(text, one_book)
            self.assertTrue(text not in other or read(one_book, text).meaning != read(other, text).meaning)
        return found

    def check_exact(self, one_book, other, found):
        wanted = ToldComparison(one_book, other).exact()
        self.assertEqual(found.pairs, tuple(sorted(entry for entry in wanted if len(entry) == 4)))
        self.assertEqual(found.changes, tuple(sorted(entry for entry in wanted if len(entry) == 3)))
        self.assertIs(is_comparison(one_book, other, found.pairs, found.changes), True)

    def check_both(self, one_book, other, text, back):
        """Both ways."""
        self.check(one_book, other, text)
        self.check(other, one_book, back)
        self.assertIs(reads_alike(one_book, other), text is None and back is None)
        self.assertIs(reads_alike(other, one_book), text is None and back is None)


class Differences(Checked):
    def test_the_same_book(self):
        self.check_both(EXAMPLE, EXAMPLE, None, None)
        self.check_both(EXAMPLE, example().book(), None, None)
        self.check_both(small(), small(), None, None)

    def test_other_marks(self):
        more = small(doc=(X | K) // COMMA + -SEMI)
        self.check_both(small(), more, None, "x ;")
        self.check_both(small(doc=(X | K) // COMMA), small(doc=(X | K) // SEMI), "x , x", "x ; x")
        # A sign that the other book does not have.
        self.check_both(small(), small(signs=(",",), doc=(X | K) // COMMA), None, None)
        self.check(more, small(signs=(",",)), "x ;")

    def test_a_word_as_a_sign(self):
        one_book = small(doc=(X | K) + -Y)
        other = Book(Form.whole(doc=(X | K) + -Y), Form("f", "(", ")", k=~X), words=["x"], signs=["y", ",", ";"])
        self.check_both(one_book, other, "x y", "x y")

    def test_other_names_of_kinds(self):
        other = Book(Form.whole(all=(X | K) // COMMA), Form("f", "(", ")", k=~X), words=["x", "y"], signs=[",", ";"])
        self.check_both(small(), other, "x", "x")
        self.check_both(small(), small(kind="m", doc=(X | one("m", "item")) // COMMA), "( )", "( )")

    def test_other_words(self):
        self.check_both(small(), small(doc=(X | K | Y) // COMMA), None, "y")
        self.check_both(small(words=("x", "y")), small(words=("y", "x")), None, None)
        self.check_both(small(k=~X | Y), small(words=("x",)), "( y )", None)

    def test_the_order_of_one_tells_the_least_text(self):
        for words, text in ((("x", "y"), "x"), (("y", "x"), "y")):
            one_book = Book(Form.whole(doc=X | Y), words=list(words), signs=[])
            self.check(one_book, Book(Form.whole(all=X | Y), words=["x", "y"], signs=[]), text)

    def test_other_roles(self):
        self.check_both(small(), small(k=~one("x", "other")), "( x )", "( x )")
        self.check_both(small(), small(doc=(X | one("k", "other")) // COMMA), "( )", "( )")
        # The roles of signs are no part of the meaning.
        self.check_both(small(), small(doc=(X | K) // one(",", "other")), None, None)

    def test_other_names_of_forms(self):
        self.check_both(small(), small(name="g"), None, None)

    def test_other_brackets(self):
        self.check_both(small(), small(opener="<", closer=">"), "( )", "< >")
        self.check_both(small(), small(closer=">"), "( )", "( >")
        self.check_both(small(), small(opener="<"), "( )", "< )")

    def test_brackets_of_two_forms(self):
        """The tokens of both books are treated evenly, but openers have other closers."""
        one_book = Book(Form.whole(doc=X | one("k", "r") | one("m", "r")), Form("f", "(", ")", k=X), Form("g", "[", "]", m=X),
                        words=["x"], signs=[])
        other = Book(Form.whole(doc=X | one("k", "r") | one("m", "r")), Form("f", "(", "]", k=X), Form("g", "[", ")", m=X),
                     words=["x"], signs=[])
        self.check_both(one_book, other, "( x )", "( x ]")
        told = compare(one_book, other)
        self.assertIn(("f", 0, -1, False), told.pairs)
        self.assertIn(("whole", 0, 0, True), told.pairs)
        # The forms have exchanged their names, and each pair of brackets its kind.
        other = Book(Form.whole(doc=X | one("k", "r") | one("m", "r")), Form("g", "(", ")", k=X), Form("f", "[", "]", m=X),
                     words=["x"], signs=[])
        self.check_both(one_book, other, None, None)

    def test_a_form_more_or_less(self):
        more = Book(Form.whole(doc=(X | K | one("m", "item")) // COMMA), Form("f", "(", ")", k=~X), Form("g", "[", "]", m=X),
                    words=["x", "y"], signs=[",", ";"])
        self.check_both(small(), more, None, "[ x ]")
        less = Book(Form.whole(doc=X // COMMA), words=["x", "y"], signs=[",", ";"])
        self.check_both(small(), less, "( )", None)

    def test_a_group_that_gets_another_kind(self):
        inside = one("k", "item") | one("m", "item")
        one_book = Book(Form.whole(doc=inside), Form("f", "(", ")", k=X, m=Y), words=["x", "y"], signs=[])
        other = Book(Form.whole(doc=inside), Form("f", "(", ")", k=Y, m=X), words=["x", "y"], signs=[])
        found = self.check(one_book, other, "( x )")
        self.assertEqual(found.changes, (("doc", "doc", False), ("k", "m", False), ("m", "k", False)))

    def test_only_a_longer_text_tells(self):
        one_book = Book(Form.whole(doc=X + ~(COMMA * 6)), words=["x"], signs=[","])
        other = Book(Form.whole(doc=X + ~(COMMA * 2)), words=["x"], signs=[","])
        self.check_both(one_book, other, None, "x , ,")
        other = Book(Form.whole(doc=X + ~(COMMA * 6) + -(COMMA * 3)), words=["x"], signs=[","])
        self.check_both(one_book, other, None, "x , , ,")
        other = Book(Form.whole(doc=X + (-(COMMA * 6)) * 2), words=["x"], signs=[","])
        self.check_both(one_book, other, "x" + " ," * 18, None)

    def test_the_empty_text(self):
        one_book = Book(Form.whole(doc=-X), words=["x"], signs=[])
        other = Book(Form.whole(doc=X), words=["x"], signs=[])
        self.check_both(one_book, other, "", None)
        found = compare(one_book, other)
        self.assertIs(bool(found), False)
        self.check_both(one_book, Book(Form.whole(all=-X), words=["x"], signs=[]), "", "")

    def test_a_word_that_reads_like_a_kind_of_the_other_book(self):
        one_book = Book(Form.whole(doc=one("k", "item") | X), words=["x", "k"], signs=[])
        other = Book(Form.whole(doc=K | X), Form("f", "(", ")", k=X), words=["x"], signs=[])
        self.check_both(one_book, other, "k", "( x )")

    def test_words_that_one_book_alone_has(self):
        one_book = Book(Form.whole(doc=X), words=["x", "y"], signs=[","])
        other = Book(Form.whole(doc=X), words=["z", "x"], signs=["!"])
        self.check_both(one_book, other, None, None)


class AgainstAllTexts(Checked):
    def test_many_books(self):
        random = Random(81)
        met = {}
        for told, book, other_told, other in near_books(random, good_books(random, 130, 7)):
            for here, there, one_book, other_book in ((told, other_told, book, other), (other_told, told, other, book)):
                try:
                    found = compare(one_book, other_book)
                except Uneven:
                    continue
                self.check_exact(one_book, other_book, found)
                self.check_text(here, there, one_book, other_book, found, met)
        for key in ("alike", "refused", "other", "longer"):
            self.assertGreater(met[key], 2, key)
        self.assertGreater(met["refused"] + met["other"], 60)

    def check_text(self, here, there, one_book, other_book, found, met):
        texts = {text: entry[1] for text, entry in here.texts(5).items()}
        others = {text: entry[1] for text, entry in there.texts(5).items()}
        wanted = next((text for text, meaning in texts.items() if others.get(text) != meaning), None)
        if found.text is not None and len(found.text.split()) > 5:
            self.assertIsNone(wanted)
            key = "longer"
            self.assertTrue(found.text not in other_book
                            or read(one_book, found.text).meaning != read(other_book, found.text).meaning)
        else:
            self.assertEqual(found.text, wanted)
            key = "alike" if wanted is None else "other" if wanted in others else "refused"
        met[key] = met.get(key, 0) + 1

    def test_reads_alike(self):
        random = Random(82)
        met = {True: 0, False: 0}
        for told, book, other_told, other in near_books(random, good_books(random, 60, 6)):
            try:
                found = reads_alike(book, other)
            except Uneven:
                continue
            met[found] += 1
            self.assertIs(found, bool(compare(book, other)) and bool(compare(other, book)))
            texts = [{text: entry[1] for text, entry in one_told.texts(5).items()} for one_told in (told, other_told)]
            if found:
                self.assertEqual(*texts)
        self.assertGreater(min(met.values()), 10)


class IsComparison(unittest.TestCase):
    def setUp(self):
        self.one = Book(Form.whole(doc=(X | K | one("n", "item")) // COMMA), Form("f", "(", ")", k=X + -COMMA, m=one("k", "in")),
                        Form("g", "[", "]", n=one("m", "in") | Y), words=["x", "y"], signs=[",", ";"])
        self.other = Book(Form.whole(doc=(X | K | one("n", "item")) << COMMA), Form("h", "(", ")", k=Y, m=X | one("k", "in")),
                          Form("g", "<", ">", n=one("m", "in") | Y), words=["y", "x"], signs=[",", ";"])
        found = compare(self.one, self.other)
        self.pairs, self.changes = found.pairs, found.changes
        self.told = ToldComparison(self.one, self.other)

    def check(self, pairs, changes, wanted):
        self.assertIs(is_comparison(self.one, self.other, pairs, changes), wanted, (pairs, changes))

    def every(self):
        """All pairs and changes of the two books."""
        pairs, changes = [], []
        for form in self.one.forms:
            partner = self.told.partner(form)
            states = len(self.other.machine(partner)) if partner else 0
            kinds = self.other.form_named(partner).kinds if partner else ()
            pairs += [(form, p, q, alike) for p in range(len(self.one.machine(form))) for q in range(-1, states)
                      for alike in (False, True) if q != -1 or not alike]
            changes += [(kind, after, alike) for kind in self.one.form_named(form).kinds for after in ("", *kinds)
                        for alike in (False, True) if kind == after or not alike]
        return pairs, changes

    def test_the_exact_ones(self):
        self.assertGreater(len(self.pairs), 8)
        self.assertGreater(len(self.changes), 4)
        for make in (tuple, list, lambda entries: entries[::-1], lambda entries: entries * 2):
            self.check(make(self.pairs), make(self.changes), True)
        self.assertTrue(is_comparison(changes=self.changes, pairs=self.pairs, other=self.other, one=self.one))

    def test_one_entry_less(self):
        for at in range(len(self.pairs)):
            self.check(self.pairs[:at] + self.pairs[at + 1:], self.changes, False)
        for at in range(len(self.changes)):
            self.check(self.pairs, self.changes[:at] + self.changes[at + 1:], False)
        self.check((), (), False)
        self.check(self.changes, self.pairs, False)

    def test_more_entries(self):
        pairs, changes = self.every()
        own = {*self.pairs, *self.changes}
        met = {True: 0, False: 0}
        for entry in pairs + changes:
            wanted = self.told.fulfils(own | {entry})
            met[wanted] += entry not in own
            if len(entry) == 4:
                self.check([*self.pairs, entry], self.changes, wanted)
            else:
                self.check(self.pairs, [entry, *self.changes], wanted)
        self.assertGreater(min(met.values()), 3)
        self.check(pairs, changes, True)

    def wrong(self, entry):
        yield from (list(entry), entry[:-1], (*entry, True), (entry,), [entry], str(entry), None, 0, True, "", ())
        yield from ((*entry[:-1], alike) for alike in (0, 1, None, "", "True", [], ()))
        for at in range(len(entry) - 1):
            for other in (None, True, False, "?", "x", ",", -2, 10 ** 29, 99, [], (), (entry[at],), [entry[at]], "h"):
                yield (*entry[:at], other, *entry[at + 1:])

    def test_entries_that_are_none(self):
        many = 0
        for entry in (*self.pairs, *self.changes):
            for other in self.wrong(entry):
                self.check([*self.pairs, other], self.changes, False)
                self.check(self.pairs, [*self.changes, other], False)
                many += 1
        self.assertGreater(many, 500)

    def test_states_and_kinds_that_the_forms_do_not_have(self):
        pairs, changes = self.every()
        for pair in (("g", 0, 0, False), ("g", 0, 0, True), ("f", 0, len(self.other.machine("h")), False),
                     ("whole", 0, len(self.other.machine("whole")), False), ("whole", len(self.one.machine("whole")), 0, False),
                     ("h", 0, 0, True), ("whole", 0, -1, True), ("f", 0, -1, True)):
            self.check([*pairs, pair], changes, False)
        for change in (("n", "n", False), ("n", "n", True), ("k", "n", False), ("k", "doc", False), ("doc", "k", False),
                       ("k", "m", True), ("k", "", True), ("n", "", True), ("?", "", False), ("", "", False),
                       ("whole", "whole", True), ("k", "?", False)):
            self.check(pairs, [*changes, change], False)

    def test_true_in_the_place_of_one(self):
        for at, pair in enumerate(self.pairs):
            for place, part in enumerate(pair):
                swap = {bool: int, int: bool}.get(type(part))
                if swap and swap(part) == part:
                    given = [*self.pairs[:at], (*pair[:place], swap(part), *pair[place + 1:]), *self.pairs[at + 1:]]
                    self.check(given, self.changes, False)
                    self.check([*self.pairs, *given], self.changes, False)
        for at, change in enumerate(self.changes):
            given = [*self.changes[:at], (*change[:2], int(change[2])), *self.changes[at + 1:]]
            self.check(self.pairs, given, False)

    def test_values_that_are_no_lists(self):
        deep = ()
        for _ in range(158):
            deep = (deep,)
        for wrong in (None, True, 0, 1, "", "pairs", {}, self.pairs[0], deep, [deep], [[]], self.one):
            self.check(wrong, self.changes, False)
            self.check(self.pairs, wrong, False)

    def test_many_books(self):
        random = Random(83)
        for _, book, _, other in near_books(random, good_books(random, 25, 6)):
            try:
                found = compare(book, other)
            except Uneven:
                continue
            self.assertTrue(is_comparison(book, other, list(found.pairs), list(found.changes)))
            for at in range(len(found.pairs)):
                less = [*found.pairs[:at], *found.pairs[at + 1:]]
                self.assertFalse(is_comparison(book, other, less, found.changes))
            for at in range(len(found.changes)):
                less = [*found.changes[:at], *found.changes[at + 1:]]
                self.assertFalse(is_comparison(book, other, found.pairs, less))


class UnevenBooks(unittest.TestCase):
    def check(self, one_book, other, token, back):
        for first, second, wanted in ((one_book, other, token), (other, one_book, back)):
            for call in (lambda: compare(first, second), lambda: reads_alike(first, second),
                         lambda: is_comparison(first, second, [], []), lambda: is_comparison(first, second, None, 1)):
                with self.assertRaises(Uneven) as caught:
                    call()
                self.assertEqual(caught.exception.token, wanted)

    def test_a_plain_token_that_is_a_bracket(self):
        plain = small(words=("x", "("), opener="<", closer=">")
        self.check(small(), plain, "(", "(")
        plain = small(words=("x", "y"), signs=(",", ")"), opener="<", closer=">")
        self.check(small(), plain, ")", ")")

    def test_an_opener_that_is_a_closer(self):
        self.check(small(), small(opener=")", closer="("), "(", ")")
        self.check(small(), small(opener=")", closer=">"), ")", ")")

    def test_the_first_token_of_one(self):
        one_book = small(words=("x", "y", "z"), signs=(",", ";", "!"), opener="(", closer=")")
        other = small(words=("x",), signs=(",", "("), opener="!", closer="z")
        self.check(one_book, other, "z", "(")

    def test_words_and_signs_are_even(self):
        self.assertIsNone(compare(small(), small(words=("x", ";"), signs=(",", "y"))).text)


class Interface(unittest.TestCase):
    def test_defined_in_the_file_itself(self):
        for thing in (compare, Comparison, is_comparison, reads_alike):
            self.assertEqual(thing.__module__, "silentslips.comparing")
        self.assertIn("__bool__", vars(Comparison))

    def test_by_name(self):
        self.assertIsNone(compare(other=EXAMPLE, one=EXAMPLE).text)
        self.assertIs(reads_alike(other=EXAMPLE, one=EXAMPLE), True)

    def test_kinds_of_values(self):
        found = compare(EXAMPLE, small(words=("x", "s"), signs=(",",), doc=X | K))
        for pair in found.pairs:
            self.assertEqual([type(part) for part in pair], [str, int, int, bool])
        for change in found.changes:
            self.assertEqual([type(part) for part in change], [str, str, bool])
        self.assertIs(type(found.pairs), tuple)
        self.assertIs(type(found.changes), tuple)

    def test_books_without_forms(self):
        empty = Book(Form.whole(doc=nothing()), words=[], signs=[])
        self.assertIs(reads_alike(empty, empty), True)
        self.assertEqual(compare(empty, empty).pairs, (("whole", 0, 0, True),))


if __name__ == "__main__":
    unittest.main()
