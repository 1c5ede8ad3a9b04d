"""The facts of point 24, each in books where it can be seen, and in all short texts of many small books."""

import unittest
from random import Random

from silentslips.books import Book
from silentslips.forms import Form
from silentslips.patterns import one
from silentslips.reading import read
from silentslips.rules import Out, Slips, Swapped, Taken, Twice, rule_of
from silentslips.slipping import fate
from silentslips.surveys import survey
from silentslips.tables import spots_of, table
from tests.told_books import all_rules, good_books
from tests.told_slips import all_slips

# A book in which nearly everything may stand everywhere, so that few slips are refused.
FREE = ~(one("x", "item") | one("y", "item") | one(",") | one(";") | one("k", "item") | one("n", "item"))
BOOK = Book(Form.whole(doc=FREE), Form("f", "(", ")", k=FREE), Form("g", "[", "]", n=FREE), words=["x", "y"],
            signs=[",", ";"])
WORDS, SIGNS, BRACKETS = ("x", "y"), (",", ";"), ("(", ")", "[", "]")


def fates_of(*rules):
    told = survey(BOOK, Slips(*rules))
    return [told.fates_of(rule) for rule in rules]


class Facts(unittest.TestCase):
    def test_parts_are_words_and_groups_alone(self):
        for text in BOOK.texts(4):
            meaning = read(BOOK, text).meaning
            self.assertEqual([thing if isinstance(thing, str) else thing[0] for _, thing in meaning[1]],
                             self.symbols(text.split()))

    def symbols(self, tokens):
        """The words and the kinds of the groups of the row, one after another."""
        found, depth = [], 0
        for token in tokens:
            depth -= token in ")]"
            if depth == 0 and token in WORDS:
                found.append(token)
            if depth == 0 and token in "([":
                found.append("k" if token == "(" else "n")
            depth += token in "(["
        return found

    def test_slips_of_words_never_keep_the_meaning(self):
        self.assertEqual(fates_of(Out("x"), Twice("x"), Taken("x", "y"), Taken("x", ","), Taken(",", "x"), Swapped("x", "y")),
                         [("other",)] * 6)

    def test_slips_of_signs_can_keep_it(self):
        self.assertEqual(fates_of(Out(","), Twice(","), Taken(",", ";"), Swapped(",", ";"), Swapped("x", ","),
                                  Swapped(";", "y")), [("same",)] * 6)

    def test_slips_of_brackets_are_refused(self):
        for bracket in BRACKETS:
            others = [token for token in (*BOOK.tokens, "?") if token != bracket]
            rules = [Out(bracket), Twice(bracket)] + [Taken(bracket, other) for other in others]
            self.assertEqual(fates_of(*rules), [("refused",)] * len(rules))

    def test_plain_tokens_taken_for_brackets_are_refused(self):
        rules = [Taken(token, other) for token in WORDS + SIGNS for other in (*BRACKETS, "?", "k", "doc")]
        self.assertEqual(fates_of(*rules), [("refused",)] * len(rules))

    def test_brackets_that_are_exchanged_need_not_be_refused(self):
        self.assertEqual(fates_of(Swapped(",", "("), Swapped(")", ";"), Swapped("[", ","), Swapped(",", "]")),
                         [("same",)] * 4)
        self.assertEqual(fates_of(Swapped("x", "("), Swapped(")", "x"), Swapped("(", "x"), Swapped("x", ")")),
                         [("other",)] * 4)
        self.assertEqual(fates_of(Swapped(")", "(")), [("other",)])
        # Within a group of its own form an empty group parts it, and anywhere else nothing is open.
        self.assertEqual(fates_of(Swapped("(", ")")), [("refused", "other")])
        self.assertEqual(fates_of(Swapped(")", "["), Swapped("(", "["), Swapped("]", ")")), [("refused",)] * 3)

    def test_one_row_alone_changes(self):
        """The rows around see only that the group gets another kind, or none."""
        item = one("x", "item")
        many = item + one(",") + -item
        single_group, many_group = one("single", "r"), one("many", "r")
        free, fixed = single_group | many_group, one("x", "r") | many_group
        for whole, kinds, wanted in (
            (free, {"single": item, "many": many}, {"single", ""}), (fixed, {"many": many}, {""}),
            (one("single", "left") | one("many", "right"), {"single": item, "many": many}, {"single", ""}),
        ):
            book = Book(Form.whole(doc=whole), Form("f", "(", ")", **kinds), words=["x"], signs=[","])
            told = table(book, Out(","), (("f", "plain"),))
            self.assertEqual({change for change in told.changes if change[0] == "many"},
                             {("many", after, False) for after in wanted})
            self.assertEqual(told.fates, ("refused", "other") if "single" in wanted else ("refused",))

    def test_what_stands_beside_the_group_stays(self):
        """The pairs of the row around are those of the states that the old kind and the new one lead to."""
        item = one("x", "item")
        book = Book(Form.whole(doc=(one("single", "a") | one("many", "b") + one("x", "c")) + ~one("x", "d")),
                    Form("f", "(", ")", single=item, many=item + one(",")), words=["x"], signs=[","])
        machine = book.machine("whole")
        led = [machine.go(0, kind)[1] for kind in ("many", "single")]
        told = table(book, Out(","), (("f", "plain"),))
        self.assertIn(("whole", *led, False), told)
        self.assertEqual(fate(book, "( x , ) x", Out(","), 2), "other")


class AllShortTexts(unittest.TestCase):
    def test_many_books(self):
        met = {}
        for told, book in good_books(Random(61), 90, 7):
            rules = all_rules([*told.tokens, "?"])
            plain = told.words + told.signs
            for rule, text, place, _, said in all_slips(told, rules, 5):
                word, *tokens = rule.split(" ")
                words = [token for token in tokens if token in told.words]
                if word == "swapped":
                    lost = len(words) == 2
                    unbalanced = False
                else:
                    lost = len(words) > 0
                    unbalanced = any(token not in plain for token in tokens)
                if unbalanced:
                    self.assertEqual(said, "refused", (rule, text))
                if lost:
                    self.assertNotEqual(said, "same", (rule, text))
                met[lost, unbalanced, said] = met.get((lost, unbalanced, said), 0) + 1
        for key in ((True, True, "refused"), (True, False, "other"), (False, False, "same"), (False, False, "other"),
                    (False, True, "refused")):
            self.assertGreater(met[key], 50, key)

    def test_surveys_of_many_books(self):
        for _, book in good_books(Random(62), 40, 8):
            plain = book.words + book.signs
            for rule, _, said, _, _ in survey(book, Slips.every(book)).rows:
                tokens = rule_of(rule).tokens
                if not rule.startswith("swapped"):
                    if any(token not in plain for token in tokens):
                        self.assertEqual(said, "refused")
                    if any(token in book.words for token in tokens):
                        self.assertNotEqual(said, "same")
            for rule in Slips.every(book).rules:
                if rule.word == "swapped" and all(token in book.words for token in rule.tokens):
                    for spots in spots_of(book, rule):
                        self.assertNotIn("same", table(book, rule, spots).fates)


if __name__ == "__main__":
    unittest.main()
