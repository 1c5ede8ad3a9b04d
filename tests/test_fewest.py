"""The fewest slips, their text, and the labels that show them: points 31 and 32."""

import unittest
from random import Random

from silentslips.books import Book
from silentslips.errors import BadRule
from silentslips.fewest import Fewest, are_labels, fewest
from silentslips.forms import Form
from silentslips.patterns import nothing, one
from silentslips.reading import read
from silentslips.rules import Out, Slips, Swapped, Taken, Twice, rule_of, slipped_at
from tests.told_books import all_rules, example, good_books
from tests.told_labels import ToldLabels, fewest_in

EXAMPLE = example().book()
X, COMMA, SEMI = one("x", "item"), one(",", "between"), one(";", "end")
SIGNS = Slips(Out(","), Twice(","))


def book_of(*forms, words=("x", "y"), signs=(",", ";"), **kinds):
    return Book(Form.whole(**kinds), *forms, words=list(words), signs=list(signs))


def far_groups(many):
    """A book in which so many groups, each with seven commas, can only together be groups without any."""
    far, near = one("far", "r") * many, one("near", "r") * many
    return book_of(Form("f", "(", ")", far=COMMA * 7 + X, near=X), doc=far | near)


class Checked(unittest.TestCase):
    def check(self, book, slips, number, told=None):
        """The number of the fewest slips, and that text, steps and slipped show it."""
        found = fewest(book, slips)
        self.assertIsInstance(found, Fewest)
        self.assertEqual(found.number, number)
        self.assertIs(bool(found), number is not None)
        if number is None or number > 20:
            self.assertEqual((found.text, found.steps, found.slipped), ("", (), ""))
        else:
            self.check_steps(book, slips, found)
        if told is not None:
            self.assertEqual((found.text, found.steps, found.slipped), told)
        self.check_labels(book, slips, found)
        return found

    def check_steps(self, book, slips, found):
        self.assertIs(type(found.steps), tuple)
        self.assertEqual(len(found.steps), found.number)
        places = [place for _, place in found.steps]
        self.assertEqual(places, sorted(set(places)))
        self.assertTrue(all(rule_of(rule) in slips for rule, _ in found.steps))
        self.assertEqual(slipped_at(found.text, [(rule_of(rule), place) for rule, place in found.steps]), found.slipped)
        for text in (found.text, found.slipped):
            self.assertEqual(text, " ".join(text.split()))
            self.assertIn(text, book)
        self.assertNotEqual(read(book, found.text).meaning, read(book, found.slipped).meaning)

    def check_labels(self, book, slips, found):
        labels, prices = ToldLabels(book, [tuple(str(rule).split(" ")) for rule in slips.rules]).exact()
        self.assertEqual(found.labels, tuple(sorted((*label, cost) for label, cost in labels.items())))
        self.assertEqual(found.prices, tuple(sorted((*price, cost) for price, cost in prices.items())))
        self.assertTrue(are_labels(book, slips, found.labels, found.prices))


class Numbers(Checked):
    def test_one(self):
        self.check(EXAMPLE, Slips(Out(",")), 1, ("( x , )", (("out ,", 2),), "( x )"))
        self.check(EXAMPLE, Slips(Twice(",")), None)
        self.check(EXAMPLE, Slips(Swapped(",", "s")), 1)
        self.check(EXAMPLE, Slips(Swapped("s", ","), Twice(",")), 1)

    def test_two(self):
        book = book_of(doc=X + -COMMA, all=X + COMMA * 3)
        self.check(book, Slips(Out(",")), 2)
        self.check(book, Slips(Twice(",")), None)
        # A comma can be doubled once only, and the new one is no token of the text.
        self.check(book_of(doc=X + COMMA, all=X + COMMA * 2 + X), Slips(Twice(",")), None)
        self.check(book_of(doc=X + COMMA * 2, all=X + COMMA * 4), Slips(Twice(",")), 2,
                   ("x , ,", (("twice ,", 1), ("twice ,", 2)), "x , , , ,"))

    def test_more(self):
        for many in range(1, 9):
            self.check(book_of(doc=X, all=COMMA * many + X), Slips(Out(",")), many)
        self.check(book_of(doc=COMMA * 5 + X, all=SEMI * 5 + X), Slips(Taken(",", ";")), 5)
        self.check(book_of(doc=COMMA * 5 + X, all=SEMI * 3 + X), Slips(Taken(",", ";"), Out(",")), 5)
        self.check(book_of(doc=X + COMMA * 4, all=COMMA * 4 + X), Slips(Swapped("x", ",")), None)
        self.check(book_of(doc=(X + COMMA) * 3, all=(COMMA + X) * 3), Slips(Swapped("x", ",")), 3,
                   ("x , x , x ,", (("swapped x ,", 0), ("swapped x ,", 2), ("swapped x ,", 4)), ", x , x , x"))

    def test_what_a_single_slip_would_give_does_not_matter(self):
        book = book_of(doc=(X + COMMA) * 2 | X * 2 + SEMI, all=X * 2)
        self.check(book, Slips(Out(",")), 2, ("x , x ,", (("out ,", 1), ("out ,", 3)), "x x"))

    def test_the_same_kind_with_other_roles(self):
        book = book_of(doc=one("x", "a") + COMMA * 2 | COMMA * 2 + one("x", "b"), signs=[",", ";"])
        self.check(book, Slips(Swapped("x", ","), Swapped(",", "x")), None)
        book = book_of(doc=one("x", "a") + COMMA | COMMA + one("x", "b"))
        self.check(book, Slips(Swapped("x", ",")), 1, ("x ,", (("swapped x ,", 0),), ", x"))

    def test_no_number(self):
        book = book_of(doc=X + ~COMMA)
        self.check(book, Slips(Out(","), Twice(","), Taken(",", ";"), Swapped("x", ",")), None)
        self.check(book, Slips(), None)
        self.check(EXAMPLE, Slips(), None)
        # What becomes a sign that the row cannot have is refused for ever.
        self.check(book_of(doc=X + COMMA, all=X + SEMI + X), Slips(Taken(",", ";")), None)

    def test_groups_in_one_another(self):
        book = far_groups(1)
        self.check(book, Slips(Out(",")), 7)
        self.check(far_groups(2), Slips(Out(",")), 14)
        deep = book_of(Form("f", "(", ")", far=COMMA + one("low", "r"), near=one("low", "r")),
                       Form("g", "[", "]", low=COMMA + X), doc=one("far", "r"), all=one("near", "r"))
        self.check(deep, Slips(Out(",")), 1)
        high = book_of(Form("f", "(", ")", far=COMMA + one("low", "r"), near=one("high", "r")),
                       Form("g", "[", "]", low=COMMA + X, high=X), doc=one("far", "r"), all=one("near", "r"))
        self.check(high, Slips(Out(",")), 2, ("( , [ , x ] )", (("out ,", 1), ("out ,", 3)), "( [ x ] )"))

    def test_about_twenty(self):
        for many, number in ((2, 14), (3, 21), (4, 28)):
            self.check(far_groups(many), Slips(Out(",")), number)
        book = book_of(Form("f", "(", ")", far=COMMA * 5 + X, near=X), doc=one("far", "r") * 4 | one("near", "r") * 4)
        found = self.check(book, Slips(Out(",")), 20)
        self.assertEqual(found.slipped, "( x ) ( x ) ( x ) ( x )")

    def test_cheap_and_dear_ways(self):
        # Both rules lead to another meaning; only one of them by a single slip.
        book = book_of(doc=X + -COMMA, all=X + SEMI, more=X + COMMA * 4)
        self.check(book, Slips(Out(","), Taken(",", ";")), 1)
        self.check(book, Slips(Out(",")), 3)
        self.check(book, Slips(Out(","), Out(";")), 1)

    def test_by_name(self):
        self.assertEqual(fewest(slips=Slips(Out(",")), book=EXAMPLE).number, 1)


class AgainstSlowOnes(Checked):
    """Many small books: labels and prices as slow rounds give them, numbers as all slips in short texts do."""

    def books(self, seed, many, size):
        random = Random(seed)
        for told, book in good_books(random, many, size):
            rules = [rule for rule in all_rules(told.tokens) if ToldLabels(book, []).kept(rule)]
            if rules:
                rules = random.sample(rules, random.randint(1, min(len(rules), 6)))
                yield told, book, rules, Slips.of([rule_of(" ".join(rule)) for rule in rules])

    def test_labels(self):
        met = {}
        for told, book, _, slips in self.books(71, 260, 9):
            with self.subTest(forms=told.forms, rules=[str(rule) for rule in slips.rules]):
                found = self.check(book, slips, fewest(book, slips).number)
                met[found.number] = met.get(found.number, 0) + 1
        self.assertGreater(met[1], 10)
        self.assertGreater(met[None], 50)
        self.assertGreater(len(met), 2)

    def test_numbers(self):
        met = {}
        for told, book, rules, slips in self.books(72, 200, 6):
            texts = {text: entry[1] for text, entry in told.texts(5).items()}
            if len(texts) > 120:
                continue
            found, wanted = fewest(book, slips), fewest_in(texts, rules, 2)
            if wanted is not None:
                self.assertLessEqual(found.number, wanted)
            short = all(len(text.split()) <= 5 for text in (found.text, found.slipped))
            if found.number in (1, 2) and short:
                self.assertEqual(wanted, found.number)
            met[wanted] = met.get(wanted, 0) + 1
        self.assertGreater(met[1], 8)
        self.assertGreater(met[None], 50)

    def test_two_slips_of_short_texts(self):
        for doc, other in ((COMMA * 2 + X, X), (COMMA + X + COMMA, X), (X + COMMA + X + COMMA, X * 2),
                           (X + SEMI + COMMA, X), (COMMA * 2 + X * 2, X + COMMA * 2 + X)):
            for rules in ([("out", ","), ("out", ";")], [("swapped", ",", "x"), ("out", ",")],
                          [("twice", ","), ("taken", ",", ";"), ("out", ";")]):
                book = book_of(doc=doc, all=other)
                texts = {text: read(book, text).meaning for text in book.texts(6)}
                found = fewest(book, Slips.of([rule_of(" ".join(rule)) for rule in rules]))
                self.assertEqual(found.number, fewest_in(texts, rules, 3))


class Holding(unittest.TestCase):
    """What are_labels accepts, for a book with two forms."""

    RULES = [("out", ","), ("twice", ","), ("swapped", "x", ","), ("taken", ",", ";")]
    SLIPS = Slips.of([rule_of(" ".join(rule)) for rule in RULES])

    def setUp(self):
        self.book = book_of(Form("f", "(", ")", k=one("x", "a") + -COMMA, m=COMMA + one("x", "b") | one("k", "in") + SEMI),
                            doc=(one("k", "in") | one("m", "in") + SEMI) // COMMA)
        told = fewest(self.book, self.SLIPS)
        self.labels, self.prices = told.labels, told.prices
        self.told = ToldLabels(self.book, self.RULES)

    def check(self, labels, prices, wanted):
        self.assertIs(are_labels(self.book, self.SLIPS, labels, prices), wanted, (labels, prices))

    def slow(self, labels, prices):
        return self.told.hold({label[:4]: label[4] for label in labels}, {price[:3]: price[3] for price in prices})

    def test_the_exact_ones(self):
        self.assertGreater(len(self.labels), 15)
        self.assertGreater(len(self.prices), 4)
        for make in (tuple, list, lambda entries: entries[::-1]):
            self.check(make(self.labels), make(self.prices), True)
        self.assertTrue(are_labels(prices=self.prices, labels=self.labels, slips=self.SLIPS, book=self.book))

    def test_all_costs_0(self):
        labels = [(*label[:4], 0) for label in self.labels]
        prices = [(*price[:3], 0) for price in self.prices]
        self.check(labels, prices, True)
        self.check(labels, self.prices, self.slow(labels, self.prices))
        self.check(self.labels, prices, self.slow(self.labels, prices))

    def every(self):
        """All labels and prices that can be given, with the cost 0."""
        labels = [(form, p, q, alike, 0) for form in self.book.forms for p in range(len(self.book.machine(form)))
                  for q in range(len(self.book.machine(form))) for alike in (False, True)]
        prices = [(kind, after, alike, 0) for form in self.book.forms for kind in self.book.form_named(form).kinds
                  for after in self.book.form_named(form).kinds for alike in (False, True)]
        return labels, prices

    def test_all_that_can_be_given(self):
        labels, prices = self.every()
        self.check(labels, prices, True)
        self.check(labels, (), False)
        self.check((), prices, False)
        self.check((), (), False)

    def test_one_cost_raised(self):
        """The costs of the exact ones are the greatest."""
        for at, label in enumerate(self.labels):
            raised = (*label[:4], label[4] + 1)
            self.check([*self.labels[:at], raised, *self.labels[at + 1:]], self.prices, False)
            self.check([*self.labels[:at], *self.labels[at + 1:]], self.prices, False)
        for at, price in enumerate(self.prices):
            raised = (*price[:3], price[3] + 1)
            self.check(self.labels, [*self.prices[:at], raised, *self.prices[at + 1:]], False)
            self.check(self.labels, [*self.prices[:at], *self.prices[at + 1:]], False)

    def test_one_cost_lowered(self):
        met = set()
        for at, label in enumerate(self.labels):
            if label[4] > 0:
                given = [*self.labels[:at], (*label[:4], label[4] - 1), *self.labels[at + 1:]]
                wanted = self.slow(given, self.prices)
                self.check(given, self.prices, wanted)
                met.add(wanted)
        for at, price in enumerate(self.prices):
            if price[3] > 0:
                given = [*self.prices[:at], (*price[:3], price[3] - 1), *self.prices[at + 1:]]
                self.check(self.labels, given, self.slow(self.labels, given))
        self.assertEqual(met, {True, False})

    def test_more_labels(self):
        labels, prices = self.every()
        met = set()
        for cost in (0, 1, 2, 9, 10 ** 29):
            for label in labels:
                if label[:4] not in {told[:4] for told in self.labels}:
                    given = [*self.labels, (*label[:4], cost)]
                    wanted = self.slow(given, self.prices)
                    self.check(given, self.prices, wanted)
                    met.add(wanted)
            for price in prices:
                if price[:3] not in {told[:3] for told in self.prices}:
                    given = [*self.prices, (*price[:3], cost)]
                    self.check(self.labels, given, self.slow(self.labels, given))
        self.assertEqual(met, {True, False})

    def test_true_beside_two_kinds(self):
        labels, prices = self.every()
        self.assertIn(("k", "m", True, 0), prices)
        # Nothing leads to such a price, so it need not be given; if it is, it leads to labels as others do.
        without = [price for price in prices if price[0] == price[1] or not price[2]]
        self.check(labels, without, True)
        for cost in (0, 1, 10 ** 29):
            self.check(labels, [*without, ("k", "m", True, cost)], True)
            given = [*self.prices, ("k", "m", True, cost)]
            self.check(self.labels, given, self.slow(self.labels, given))

    def test_given_twice(self):
        for label in self.labels:
            self.check([*self.labels, label], self.prices, False)
            self.check([label, *self.labels[::-1], (*label[:4], label[4] + 1)], self.prices, False)
        for price in self.prices:
            self.check(self.labels, (*self.prices, price), False)
            self.check(self.labels, (*self.prices, (*price[:3], 0)), False)

    def test_costs_below_0(self):
        """Costs that would hold but for being below 0."""
        labels, prices = self.every()
        many = 0
        for at, label in enumerate(labels):
            given = [*labels[:at], (*label[:4], -1), *labels[at + 1:]]
            many += self.slow(given, prices)
            self.check(given, prices, False)
        for at, price in enumerate(prices):
            given = [*prices[:at], (*price[:3], -1), *prices[at + 1:]]
            many += self.slow(labels, given)
            self.check(labels, given, False)
        self.assertGreater(many, 2)

    def test_the_beginnings_cost_0(self):
        for form in self.book.forms:
            at = self.labels.index((form, 0, 0, True, 0))
            self.check([*self.labels[:at], (form, 0, 0, True, 1), *self.labels[at + 1:]], self.prices, False)
            self.check([*self.labels[:at], (form, 0, 0, False, 0), *self.labels[at + 1:]], self.prices, False)

    def wrong(self, entry):
        yield from (list(entry), entry[:-1], (*entry, 0), (entry,), [entry], str(entry), None, 0, True, "", ())
        yield from ((*entry[:-1], cost) for cost in (-1, -10 ** 29, True, False, None, "", "0", [0], (0,), ()))
        yield from ((*entry[:-2], alike, entry[-1]) for alike in (0, 1, None, "", "True", [], ()))
        for at in range(len(entry) - 2):
            for other in (None, True, False, "", "?", "x", ",", -1, -2, 10 ** 29, 99, [], (), (entry[at],), [entry[at]]):
                yield (*entry[:at], other, *entry[at + 1:])

    def test_values_that_are_no_labels(self):
        many = 0
        for entry in self.labels:
            for other in self.wrong(entry):
                self.check([*self.labels, other], self.prices, False)
                self.check([other], self.prices, False)
                many += 1
        for entry in self.prices:
            for other in self.wrong(entry):
                self.check(self.labels, [other, *self.prices], False)
                many += 1
        self.assertGreater(many, 800)

    def test_true_in_the_place_of_numbers(self):
        for at, label in enumerate(self.labels):
            for place, part in enumerate(label):
                swap = {bool: int, int: bool}.get(type(part))
                if swap and swap(part) == part:
                    given = [*self.labels[:at], (*label[:place], swap(part), *label[place + 1:]), *self.labels[at + 1:]]
                    self.assertEqual(tuple(given), self.labels)
                    self.check(given, self.prices, False)
        for at, price in enumerate(self.prices):
            for wrong in ((*price[:2], int(price[2]), price[3]), (*price[:3], price[3] == 1)):
                if wrong == price:
                    self.check(self.labels, [*self.prices[:at], wrong, *self.prices[at + 1:]], False)

    def test_kinds_of_two_forms(self):
        for price in (("k", "doc", False, 9), ("doc", "m", False, 9), ("k", "", False, 9), ("", "", False, 9),
                      ("f", "f", True, 0), ("x", "x", True, 0), ("k", "?", False, 9)):
            self.check(self.labels, [*self.prices, price], False)

    def test_values_that_are_no_lists(self):
        deep = ()
        for _ in range(158):
            deep = (deep,)
        for wrong in (None, True, 0, 1, "", "labels", {}, self.labels[0], deep, [deep], [[]], self.book):
            self.check(wrong, self.prices, False)
            self.check(self.labels, wrong, False)
        self.check(self.prices, self.labels, False)

    def test_the_rules_count(self):
        labels, prices = fewest(self.book, Slips(Out(","))).labels, fewest(self.book, Slips(Out(","))).prices
        self.check(labels, prices, False)
        self.assertTrue(are_labels(self.book, Slips(), self.labels, self.prices))


class Errors(unittest.TestCase):
    def check(self, slips, worth):
        for call in (lambda: fewest(EXAMPLE, slips), lambda: are_labels(EXAMPLE, slips, [], []),
                     lambda: are_labels(EXAMPLE, slips, None, 1)):
            with self.assertRaises(BadRule) as caught:
                call()
            self.assertEqual(caught.exception.worth, worth)

    def test_the_first_rule_that_does_not_keep_the_words(self):
        self.check(Slips(Out("x")), "out x")
        self.check(Slips(Out(","), Out("x"), Out("s"), Twice("(")), "out s")
        self.check(Slips(Twice("("), Taken(",", "x"), Swapped("x", "s")), "twice (")
        self.check(Slips(Taken(",", "x"), Swapped("x", "s")), "swapped x s")
        self.check(Slips(Swapped(",", "("), Swapped(",", "x")), "swapped , (")
        self.check(Slips(Taken(",", "x"), Taken("x", ",")), "taken , x")
        self.check(Slips(Out("?"), Out(",")), "out ?")
        self.check(Slips(Swapped("?", ",")), "swapped ? ,")
        self.check(Slips(Taken(",", "?")), "taken , ?")

    def test_rules_that_keep_them(self):
        slips = Slips(Out(","), Twice(","), Swapped("x", ","), Swapped(",", "s"))
        self.assertEqual(fewest(EXAMPLE, slips).number, 1)

    def test_a_token_that_reads_like_a_kind(self):
        book = Book(Form.whole(doc=-one("k", "in")), Form("f", "(", ")", k=nothing()), words=[], signs=[])
        with self.assertRaises(BadRule) as caught:
            fewest(book, Slips(Out("k")))
        self.assertEqual(caught.exception.worth, "out k")


class Interface(unittest.TestCase):
    def test_defined_in_the_file_itself(self):
        for thing in (fewest, Fewest, are_labels):
            self.assertEqual(thing.__module__, "silentslips.fewest")
        self.assertIn("__bool__", vars(Fewest))

    def test_tuples(self):
        told = fewest(EXAMPLE, SIGNS)
        for entries in (told.labels, told.prices, told.steps):
            self.assertIs(type(entries), tuple)
        for entry in told.labels:
            self.assertEqual([type(part) for part in entry], [str, int, int, bool, int])
        for entry in told.prices:
            self.assertEqual([type(part) for part in entry], [str, str, bool, int])


if __name__ == "__main__":
    unittest.main()
