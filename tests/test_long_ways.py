"""Books near the bounds of point 3, sets of forty rules, and texts of more than a thousand tokens."""

import unittest
from random import Random

from silentslips.books import Book
from silentslips.comparing import compare, is_comparison, reads_alike
from silentslips.errors import SlipError
from silentslips.fewest import are_labels, fewest
from silentslips.forms import Form
from silentslips.mending import Change, mends, why_not
from silentslips.patterns import one
from silentslips.reading import Reader, read
from silentslips.rules import Out, Slips, Swapped, Taken, Twice, rule_of
from silentslips.slipping import fate, spots_at
from silentslips.surveys import lookalikes, survey
from silentslips.tables import is_table, spots_of, table
from silentslips.writing import is_loss, loss, write

WORDS, SIGNS = list("abcd"), list(",;:!?")
X, COMMA = one("x", "item"), one(",", "between")


def circle(token, *sizes):
    """The rows of this token whose number one of the sizes divides."""
    found = ~(token * sizes[0])
    for size in sizes[1:]:
        found = found | ~(token * size)
    return found


def register():
    """A book of 64 states: the last token but five has to be a comma."""
    either = one("x") | one(",")
    return Book(Form.whole(doc=~either + one(",") + either * 5), words=["x"], signs=[","])


def near_the_bounds(random):
    """A book with four words, five signs, three forms with brackets, eight kinds and long patterns."""
    kinds = [["ka", "kb", "kc"], ["la", "lb"], ["ma", "mb"]]
    steps = [one(symbol, "r") for symbol in [*WORDS, *SIGNS, *SIGNS] + sum(kinds, [])]
    while True:
        forms = [Form.whole(doc=pattern(steps, 16, random))]
        for (name, opener, closer), names in zip((("f", "(", ")"), ("g", "[", "]"), ("h", "<", ">")), kinds):
            forms.append(Form(name, opener, closer, **{kind: pattern(steps, 12, random) for kind in names}))
        try:
            return Book.of(forms, WORDS, SIGNS)
        except SlipError:
            continue


def pattern(steps, size, random):
    found = random.choice(steps)
    for step in random.choices(steps, k=size - 1):
        found = random.choice([found + step, found + step, found | step, found + ~step, -found + step, found // step,
                               found << step])
    return found


class ManyRules(unittest.TestCase):
    def test_forty_rules_of_large_books(self):
        random = Random(121)
        for _ in range(6):
            book = near_the_bounds(random)
            self.assertEqual(len(book.kinds), 8)
            slips = Slips.of(random.sample(Slips.every(book).rules, 40))
            told = survey(book, slips)
            for rule, spots, said, text, place in told.rows:
                self.assertEqual(fate(book, text, rule_of(rule), place), said)
                self.assertEqual(spots_at(book, text, rule_of(rule), place), spots)
            for rule in slips.rules:
                for spots in spots_of(book, rule):
                    case = table(book, rule, spots)
                    self.assertEqual(case.fates, told.fates_of(rule, spots))
                    self.assertTrue(is_table(book, rule, spots, case.pairs, case.changes))
            self.assertEqual(len(told.page()), len(told))

    def test_all_rules_of_the_signs(self):
        random = Random(122)
        for _ in range(4):
            book = near_the_bounds(random)
            slips = Slips.of([rule for rule in Slips.every(book).rules if rule.keeps_words(book)])
            self.assertEqual(len(slips), 5 + 5 + (9 * 8 - 4 * 3) + 5 * 4)
            told = fewest(book, slips)
            self.assertTrue(are_labels(book, slips, told.labels, told.prices))
            self.assertIsInstance(lookalikes(book), list)

    def test_two_large_books(self):
        random = Random(123)
        for _ in range(4):
            book, other = near_the_bounds(random), near_the_bounds(random)
            found = compare(book, other)
            self.assertTrue(is_comparison(book, other, found.pairs, found.changes))
            self.assertTrue(reads_alike(book, book))
            lost = loss(book, other)
            self.assertTrue(is_loss(book, other, lost.rows))
            self.assertTrue(loss(book, book))
            if lost.text is not None:
                self.assertEqual(read(book, write(book, read(book, lost.text).meaning)), read(book, lost.text))

    def test_forty_rules_and_four_changes(self):
        random = Random(124)
        book = near_the_bounds(random)
        slips = Slips.of(random.sample(Slips.every(book).rules, 40))
        pool = [Change(kind, -one(",", "r") + book[kind]) for kind in random.sample(book.kinds, 4)]
        found = mends(book, slips, *pool)
        for indexes in found:
            self.assertIsNone(why_not(book, slips, [pool[at] for at in indexes]))


class ManyStates(unittest.TestCase):
    def test_a_circle(self):
        book = Book(Form.whole(doc=circle(X, 3, 5, 7)), words=["x"], signs=[])
        self.assertEqual(len(book.machine("whole")), 105)
        told = survey(book, Slips(Out("x"), Twice("x")))
        # The number and the one below it, or above it, have to be divided each; from one the other one is the empty row.
        self.assertEqual(told.least(Out("x"), "other"), (" ".join("x" * 6), 0))
        self.assertEqual(told.least(Twice("x"), "other"), (" ".join("x" * 5), 0))
        self.assertEqual(len(table(book, Out("x"), (("whole", "item"),))), 105 + 2)

    def test_circles_of_signs(self):
        book = Book(Form.whole(doc=X + circle(COMMA, 3, 5, 7)), words=["x"], signs=[","])
        slips = Slips(Out(","), Twice(","), Swapped("x", ","))
        told = fewest(book, slips)
        self.assertIsNone(told.number)
        self.assertEqual(len(told.labels), 1 + 105 * 105)
        self.assertTrue(are_labels(book, slips, told.labels, told.prices))
        self.assertFalse(are_labels(book, slips, told.labels[:-1], told.prices))

    def test_two_circles(self):
        books = [Book(Form.whole(doc=circle(X, *sizes)), words=["x"], signs=[]) for sizes in ((9, 7), (8, 7), (1,))]
        for one_book, other, many in ((books[0], books[1], 9), (books[1], books[0], 8)):
            found = compare(one_book, other)
            self.assertEqual(found.text, " ".join("x" * many))
            self.assertEqual(len(found.pairs), 9 * 8 * 7)
            self.assertTrue(is_comparison(one_book, other, found.pairs, found.changes))
            self.assertFalse(is_comparison(one_book, other, found.pairs[1:], found.changes))
            self.assertEqual(loss(one_book, other).text, found.text)
            self.assertIsNone(compare(one_book, books[2]).text)

    def test_a_register(self):
        book = register()
        self.assertEqual(len(book.machine("whole")), 64)
        slips = Slips.every(book)
        told = survey(book, slips)
        self.assertEqual(told.fates_of(Out(",")), ("refused", "same"))
        self.assertEqual(told.fates_of(Taken(",", "x")), ("refused", "other"))
        kept = Slips.of([rule for rule in slips.rules if rule.keeps_words(book)])
        least = fewest(book, kept)
        self.assertTrue(are_labels(book, kept, least.labels, least.prices))
        self.assertIsNone(loss(book, book).text)
        self.assertGreater(len(loss(book, book).rows), 200)


class LongTexts(unittest.TestCase):
    def long_book(self, *, marked):
        """Seven long groups, or twice as many, and so on; behind the mark, if there is one, five, ten, and so on."""
        group = one("k", "in")
        start = one(",") + +(group * 5)
        return Book(Form.whole(doc=X + -(start | +(group * 7)) if marked else X + -(+(group * 7))),
                    Form("f", "(", ")", k=one("x") * 9 + one("m")), Form("g", "[", "]", m=one("x") * 9 + one("n")),
                    Form("h", "<", ">", n=one("x") * 9), words=["x"], signs=[","])

    def test_a_survey(self):
        book = self.long_book(marked=True)
        told = survey(book, Slips(Out(",")))
        text, place = told.least(Out(","), "same")
        self.assertEqual((len(text.split()), place), (2 + 35 * 33, 1))
        reading = read(book, text)
        self.assertEqual(len(reading), 2 + 35 * 33)
        self.assertEqual(fate(book, text, Out(","), 1), "same")
        # Without the mark it is the least text with this meaning.
        self.assertEqual(write(book, reading.meaning), text.replace(", ", ""))
        reader = Reader(book)
        reader.feed_all(text)
        self.assertEqual(reader.done(), reading)

    def test_a_loss_and_a_comparison(self):
        book, other = self.long_book(marked=True), self.long_book(marked=False)
        self.assertEqual(len(loss(book, other).text.split()), 2 + 5 * 33)
        self.assertTrue(loss(other, book))
        self.assertEqual(compare(book, other).text, loss(book, other).text)
        self.assertTrue(compare(other, book))

    def test_a_comparison_that_only_a_long_text_shows(self):
        group = one("k", "in")
        forms = [Form("f", "(", ")", k=one("x") * 9 + one("m")), Form("g", "[", "]", m=one("x") * 9)]
        one_book, other = [Book(Form.whole(doc=X + -rows), *forms, words=["x"], signs=[]) for rows in
                           (circle(group, 7, 5), circle(group, 7, 5) | group * 3)]
        self.assertEqual(len(compare(other, one_book).text.split()), 1 + 3 * 22)
        self.assertTrue(compare(one_book, other))

    def test_fifty_groups_in_one_another(self):
        inside = -(one("k", "in") + -COMMA)
        book = Book(Form.whole(doc=one("k", "in")), Form("f", "(", ")", k=inside), words=[], signs=[","])
        text = "( " * 51 + ") , " * 50 + ")"
        meaning = read(book, text).meaning
        self.assertEqual(write(book, meaning), text.replace(", ", ""))
        for place in range(52, 152, 2):
            self.assertEqual(fate(book, text, Out(","), place), "same")

    def test_taken_in_a_long_row(self):
        book = Book(Form.whole(doc=~(X + COMMA) + X), words=["x"], signs=[",", ";"])
        text = "x , " * 199 + "x"
        self.assertEqual(fate(book, text, Taken(",", ";"), 397), "refused")
        self.assertEqual(write(book, read(book, text).meaning), text)


if __name__ == "__main__":
    unittest.main()
