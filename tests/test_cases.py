"""Cases and their direct pairs: points 23 and 27."""

import unittest
from random import Random

from silentslips.books import Book
from silentslips.errors import NoCase
from silentslips.forms import Form
from silentslips.patterns import nothing, one
from silentslips.rules import Out, Swapped, Taken, Twice, rule_of
from silentslips.tables import direct, is_table, spots_of, table
from tests.told_books import all_rules, example, good_books
from tests.told_cases import ToldCases
from tests.told_slips import all_slips

EXAMPLE = example().book()
X, COMMA = one("x", "item"), one(",", "between")


def mixed_book():
    """A book with two forms whose rows hold groups of both."""
    inside = one("k", "in") | one("n", "in") | X | one(",")
    return Book(Form.whole(doc=~inside), Form("f", "(", ")", k=~inside), Form("g", "[", "]", n=(+inside) + one(";")),
                words=["x"], signs=[",", ";"])


class Spots(unittest.TestCase):
    def check(self, book, rule, wanted):
        found = spots_of(book, rule_of(rule))
        self.assertEqual(found, wanted)
        self.assertIs(type(found), list)

    def test_plain_tokens(self):
        for rule in ("out ,", "twice ,", "taken , x", "taken , ?", "taken , (", "taken , doc"):
            self.check(EXAMPLE, rule, [(("list", "between"),), (("round", "between"),)])
        self.check(EXAMPLE, "out s", [(("list", "joined"),), (("list", "new"),)])
        self.check(EXAMPLE, "out x", [(("list", "item"),), (("round", "item"),), (("whole", "item"),)])
        self.check(EXAMPLE, "swapped x ,", [(("list", "item"), ("list", "between")),
                                            (("round", "item"), ("round", "between"))])
        self.check(EXAMPLE, "swapped s ,", [(("list", "joined"), ("list", "between")),
                                            (("list", "new"), ("list", "between"))])
        self.check(EXAMPLE, "swapped s x", [])

    def test_brackets(self):
        for rule in ("out (", "twice (", "taken ( [", "taken ( )", "taken ( x", "taken ( ?"):
            self.check(EXAMPLE, rule, [(("round", "open"),)])
        for rule in ("out ]", "twice ]", "taken ] [", "taken ] )", "taken ] ,", "taken ] doc"):
            self.check(EXAMPLE, rule, [(("list", "close"),)])

    def test_exchanges(self):
        self.check(EXAMPLE, "swapped ( x", [(("round", "open"), ("round", "item"))])
        self.check(EXAMPLE, "swapped [ s", [(("list", "open"), ("list", "new"))])
        self.check(EXAMPLE, "swapped s ]", [(("list", "joined"), ("list", "close")), (("list", "new"), ("list", "close"))])
        self.check(EXAMPLE, "swapped ) ,", [(("round", "close"), ("list", "between")),
                                            (("round", "close"), ("round", "between"))])
        self.check(EXAMPLE, "swapped , (", [(("list", "between"), ("round", "open")),
                                            (("round", "between"), ("round", "open"))])
        self.check(EXAMPLE, "swapped s (", [])
        self.check(EXAMPLE, "swapped [ ]", [(("list", "open"), ("list", "close"))])
        for rule in ("swapped ( )", "swapped ) (", "swapped ) [", "swapped ] (", "swapped ( ]"):
            self.check(EXAMPLE, rule, [])
        self.check(EXAMPLE, "swapped ( [", [(("round", "open"), ("list", "open"))])
        self.check(EXAMPLE, "swapped ] )", [(("list", "close"), ("round", "close"))])
        book = mixed_book()
        self.check(book, "swapped ) [", [(("f", "close"), ("g", "open"))])
        self.check(book, "swapped ) (", [(("f", "close"), ("f", "open"))])
        self.check(book, "swapped ( )", [(("f", "open"), ("f", "close"))])
        # No row of g is empty, and each one ends with its sign.
        for rule in ("swapped [ ]", "swapped ( ]", "swapped [ )", "swapped ) ]"):
            self.check(book, rule, [])

    def test_tokens_that_the_book_does_not_have(self):
        for word in ("out", "twice"):
            self.check(EXAMPLE, f"{word} ?", [])
        for other in ("x", ",", "(", "]", "!"):
            for word in ("swapped", "taken"):
                self.check(EXAMPLE, f"{word} ? {other}", [])
            self.check(EXAMPLE, f"swapped {other} ?", [])

    def test_tokens_that_read_like_the_name_of_a_kind(self):
        book = mixed_book()
        for rule in ("out k", "twice k", "swapped k x", "swapped x k", "swapped ( k", "swapped k )", "swapped ) k",
                     "swapped k [", "swapped k n", "taken k x", "taken n k", "taken doc x", "out doc"):
            self.check(book, rule, [])
        self.check(book, "taken , k", [(("f", "plain"),), (("g", "plain"),), (("whole", "plain"),)])
        for pair in direct(book, rule_of("taken , k"), (("whole", "plain"),)):
            self.assertEqual(pair[2:], (-1, False))

    def test_a_role_without_a_name(self):
        book = Book(Form.whole(doc=one("x", "left") + one("x", "right")), words=["x"], signs=[])
        self.check(book, "out x", [(("whole", "left"),), (("whole", "right"),)])
        self.check(book, "taken x !", [(("whole", "left"),), (("whole", "right"),)])

    def test_a_new_list(self):
        told = spots_of(EXAMPLE, Out(","))
        told.clear()
        self.assertEqual(len(spots_of(rule=Out(","), book=EXAMPLE)), 2)


class SpotsOfAllSlips(unittest.TestCase):
    """The spots of all slips in all short texts of many small books; what comes up in longer texts has a table."""

    def test_many_books(self):
        short = longer = 0
        for told, book in good_books(Random(41), 60, 7):
            rules = all_rules([*told.tokens, "?"])
            met = {}
            for rule, _, _, spots, _ in all_slips(told, rules, 5):
                met.setdefault(rule, set()).add(spots)
            for rule in rules:
                found = spots_of(book, rule_of(" ".join(rule)))
                self.assertEqual(found, sorted(set(found)))
                self.assertLessEqual(met.get(" ".join(rule), set()), set(found), (told.forms, rule))
                self.assertEqual(found, sorted(ToldCases(book).direct(rule)))
                short += len(met.get(" ".join(rule), set()))
                longer += len(found)
        self.assertGreater(short, 1000)
        self.assertLess(longer - short, short // 4)


class DirectPairs(unittest.TestCase):
    """Each sentence of point 27."""

    def check(self, book, rule, wanted):
        """wanted: for the spots of each case the direct pairs."""
        self.assertEqual(spots_of(book, rule), sorted(wanted))
        for spots, pairs in wanted.items():
            found = direct(book, rule, spots)
            self.assertEqual(found, sorted(pairs), (str(rule), spots))
            self.assertIs(type(found), list)

    def test_out_twice_taken(self):
        book = Book(Form.whole(doc=~(X | COMMA | one(";", "end") + X)), words=["x"], signs=[",", ";"])
        # State 0 is where a row can end, state 1 is behind the second sign.
        comma, semi, item = (("whole", "between"),), (("whole", "end"),), (("whole", "item"),)
        self.check(book, Out(","), {comma: [("whole", 0, 0, True)]})
        self.check(book, Out(";"), {semi: [("whole", 1, 0, True)]})
        self.check(book, Out("x"), {item: [("whole", 0, 0, False), ("whole", 0, 1, False)]})
        self.check(book, Twice(","), {comma: [("whole", 0, 0, True)]})
        self.check(book, Twice(";"), {semi: [("whole", 1, -1, False)]})
        self.check(book, Twice("x"), {item: [("whole", 0, 0, False)]})
        self.check(book, Taken(",", ";"), {comma: [("whole", 0, 1, True)]})
        self.check(book, Taken(";", ","), {semi: [("whole", 1, 0, True)]})
        self.check(book, Taken(",", "x"), {comma: [("whole", 0, 0, False)]})
        self.check(book, Taken("x", ","), {item: [("whole", 0, -1, False), ("whole", 0, 0, False)]})
        self.check(book, Taken("x", "?"), {item: [("whole", 0, -1, False)]})

    def test_two_plain_tokens(self):
        free = ~(X | one("y", "item") | COMMA | one("!", "end"))
        book = Book(Form.whole(doc=free), words=["x", "y"], signs=[",", "!"])
        item, comma, end = [("whole", role) for role in ("item", "between", "end")]
        self.check(book, Swapped("x", "y"), {(item, item): [("whole", 0, 0, False)]})
        self.check(book, Swapped(",", "!"), {(comma, end): [("whole", 0, 0, True)]})
        self.check(book, Swapped("x", ","), {(item, comma): [("whole", 0, 0, True)]})
        self.check(book, Swapped("!", "y"), {(end, item): [("whole", 0, 0, True)]})
        book = Book(Form.whole(doc=one(",") + one("x", "last") | one("x", "first") + one(",") + -one(",")),
                    words=["x"], signs=[","])
        # The states: begun, behind the word, behind the sign, behind word and sign, behind sign and word.
        self.check(book, Swapped(",", "x"), {(("whole", "plain"), ("whole", "last")): [("whole", 4, 3, False)]})
        self.check(book, Swapped("x", ","), {(("whole", "first"), ("whole", "plain")): [("whole", 3, 4, False)]})

    def test_a_sign_taken_for_a_bracket_and_brackets(self):
        book = Book(Form.whole(doc=COMMA + one("k", "in")), Form("f", "(", ")", k=-COMMA), words=[], signs=[","])
        whole, inner = (("whole", "between"),), (("f", "between"),)
        for other in ("(", ")", "?", "k", "doc"):
            self.check(book, Taken(",", other), {whole: [("whole", 1, -1, False)], inner: [("f", 1, -1, False)]})
        for rule in (Out("("), Twice("("), Taken("(", ","), Taken("(", ")"), Taken("(", "?")):
            self.check(book, rule, {(("f", "open"),): [("whole", 2, -1, False)]})
        for rule in (Out(")"), Twice(")"), Taken(")", ","), Taken(")", "("), Taken(")", "k")):
            self.check(book, rule, {(("f", "close"),): [("whole", 2, -1, False)]})

    def test_into_and_out_of_a_group(self):
        inside = Form("f", "(", ")", k=-COMMA + -X)
        book = Book(Form.whole(doc=-one(",", "ahead") + one("k", "in") + -one(",", "end")), inside, words=["x"],
                    signs=[","])
        opening, closing = ("f", "open"), ("f", "close")
        ahead, end, inner = ("whole", "ahead"), ("whole", "end"), ("f", "between")
        # The states of the whole form: begun, behind the sign, behind the group, behind all.
        self.check(book, Swapped(",", "("), {(ahead, opening): [("whole", 2, -1, False), ("whole", 2, 2, True)]})
        self.check(book, Swapped("(", ","), {(opening, inner): [("whole", 2, -1, False), ("whole", 2, 2, True)]})
        self.check(book, Swapped(",", ")"), {(inner, closing): [("whole", 2, 3, True)]})
        self.check(book, Swapped(")", ","), {(closing, end): [("whole", 3, -1, False), ("whole", 3, 2, True)]})
        self.check(book, Swapped("(", "x"), {(opening, ("f", "item")): [("whole", 2, -1, False)]})
        self.check(book, Swapped("x", ")"), {(("f", "item"), closing): [("whole", 2, -1, False)]})

    def test_the_group_gets_another_role(self):
        whole = one(",") + one("k", "later") | one("k", "first") + -one(",")
        book = Book(Form.whole(doc=whole), Form("f", "(", ")", k=-one(",")), words=[], signs=[","])
        for rule in (Swapped(",", "("), Swapped("(", ","), Swapped(",", ")"), Swapped(")", ",")):
            for spots in spots_of(book, rule):
                met = [pair for pair in direct(book, rule, spots) if pair[2] != -1]
                # With the sign behind it, and without any, the group has its first role; with the sign ahead the other.
                wanted = str(rule) in ("swapped , )", "swapped ) ,")
                self.assertEqual({pair[3] for pair in met}, {wanted}, str(rule))

    def test_closer_and_opener(self):
        book = Book(Form.whole(doc=~one("k", "in")), Form("f", "(", ")", k=~(one("k", "in") | X)), words=["x"], signs=[])
        spots = (("f", "close"), ("f", "open"))
        self.check(book, Swapped(")", "("), {spots: [("f", 0, 0, False), ("whole", 0, 0, False)]})
        none = Form("f", "(", ")", k=~one("k", "in") + X)
        book = Book(Form.whole(doc=~one("k", "in")), none, words=["x"], signs=[])
        self.check(book, Swapped(")", "("), {spots: [("f", 0, -1, False), ("whole", 0, -1, False)]})

    def test_opener_and_closer(self):
        spots = (("f", "open"), ("f", "close"))
        inside = ~(one("k", "in") | X)
        book = Book(Form.whole(doc=~one("k", "in")), Form("f", "(", ")", k=inside), words=["x"], signs=[])
        # Within the form itself no pair is refused at once.
        self.check(book, Swapped("(", ")"), {spots: [("f", 0, 0, False), ("whole", 0, -1, False), ("whole", 0, 0, False)]})
        book = Book(Form.whole(doc=one("k", "in") | one("n", "in")), Form("f", "(", ")", k=nothing()),
                    Form("g", "[", "]", n=one("k", "in")), words=[], signs=[])
        self.check(book, Swapped("(", ")"), {spots: [("g", 1, -1, False), ("whole", 1, -1, False)]})
        # Within the form itself only: what stands around the two groups is refused.
        book = Book(Form.whole(doc=one("m", "in")), Form("f", "(", ")", m=one("e", "in") + X, e=nothing()),
                    words=["x"], signs=[])
        self.check(book, Swapped("(", ")"), {spots: [("whole", 1, -1, False)]})

    def test_brackets_of_two_forms(self):
        book = mixed_book()
        for rule, sides in ((Swapped(")", "["), ("close", "open")), (Swapped("(", "["), ("open", "open"))):
            pairs = direct(book, rule, (("f", sides[0]), ("g", sides[1])))
            self.assertEqual({pair[2:] for pair in pairs}, {(-1, False)})
            self.assertEqual({pair[0] for pair in pairs}, {"f", "g", "whole"})
        self.check(book, Swapped("]", ")"), {(("g", "close"), ("f", "close")): direct(book, Out("("), (("f", "open"),))})
        self.check(book, Swapped(")", "]"), {})
        inner = Form("f", "(", ")", k=X)
        outer = Form("g", "[", "]", n=one("k", "in") + X, m=X + one("k", "in"))
        book = Book(Form.whole(doc=one("n", "in"), all=one("m", "in")), inner, outer, words=["x"], signs=[])
        # Only a group that begins, or ends, so stands around.
        self.check(book, Swapped("[", "("), {(("g", "open"), ("f", "open")): [("whole", 1, -1, False)]})
        self.check(book, Swapped(")", "]"), {(("f", "close"), ("g", "close")): [("whole", 2, -1, False)]})
        for rule in (Swapped("(", "["), Swapped("]", ")"), Swapped("(", "]"), Swapped("[", ")")):
            self.check(book, rule, {})

    def test_many_books(self):
        met = {}
        for told, book in good_books(Random(43), 90, 8):
            cases = ToldCases(book)
            for rule in all_rules([*told.tokens, "?", "k"]):
                wanted = cases.direct(rule)
                self.check(book, rule_of(" ".join(rule)), wanted)
                sorts = (rule[0], *[cases.sort(token) for token in rule[1:]])
                met[sorts] = met.get(sorts, 0) + len(wanted)
        for sorts in (("word", "open"), ("open", "word"), ("word", "close"), ("close", "word"), ("sign", "open"),
                      ("open", "sign"), ("sign", "close"), ("close", "sign"), ("close", "open"), ("open", "close"),
                      ("open", "open"), ("close", "close"), ("sign", "sign"), ("word", "sign"), ("word", "word")):
            self.assertGreater(met["swapped", *sorts], 5, sorts)


class NoCases(unittest.TestCase):
    BAD = [(), ((),), ("list", "between"), [("list", "between")], (["list", "between"],), ("list.between",),
           (("list", "between", "x"),), (("list", "between"), ("list", "between")), (("list", "item"),),
           (("whole", "between"),), (("List", "between"),), "list between", None, True, False, 0, 1, 10 ** 29, [], "",
           ((1, True),), (("list", None),), [[("list", "between")]], ((("list", "between"),),)]

    def deep(self, make):
        value = ("list", "between")
        for _ in range(158):
            value = make(value)
        return value

    def check(self, rule, spots):
        for call in (lambda: direct(EXAMPLE, rule, spots), lambda: table(EXAMPLE, rule, spots),
                     lambda: is_table(EXAMPLE, rule, spots, [], []), lambda: is_table(EXAMPLE, rule, spots, None, 1),
                     lambda: direct(spots=spots, rule=rule, book=EXAMPLE)):
            with self.assertRaises(NoCase) as caught:
                call()
            self.assertEqual((caught.exception.rule, caught.exception.spots), (str(rule), spots))
            self.assertIs(type(caught.exception.spots), type(spots))

    def test_values_that_are_no_spots(self):
        for spots in [*self.BAD, self.deep(lambda value: (value,)), self.deep(lambda value: [value])]:
            self.check(Out(","), spots)

    def test_rules_without_a_case(self):
        for rule in (Out("?"), Swapped("s", "x"), Taken("?", ","), Swapped("(", ")")):
            self.check(rule, (("list", "between"),))
            self.check(rule, ())

    def test_the_spots_of_another_rule(self):
        self.check(Out("s"), (("list", "between"),))
        self.check(Swapped(",", "s"), (("list", "new"), ("list", "between")))
        self.check(Swapped(")", ","), (("list", "close"), ("list", "between")))


if __name__ == "__main__":
    unittest.main()
