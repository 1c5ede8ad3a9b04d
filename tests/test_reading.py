import unittest
from itertools import product
from random import Random

from silentslips.books import Book
from silentslips.errors import Refused
from silentslips.forms import Form
from silentslips.patterns import nothing, one
from silentslips.reading import Reading, read, tokens_of
from tests.told_books import example, good_books

EXAMPLE = example().book()


def refusal(book, text):
    """The fields of the error that read raises, or None."""
    try:
        read(book, text)
    except Refused as error:
        return error.at, error.line, error.awaited
    return None


class Tokens(unittest.TestCase):
    def test_blanks_and_line_feeds(self):
        for text, wanted in (
            ("", []), (" ", []), ("\n \n", []), ("x", ["x"]), (" x ", ["x"]), ("x  y\n\nz", ["x", "y", "z"]),
            ("\n(\nx ,)\n", ["(", "x", ",)"]), ("a%b", ["a%b"]), ("abcdefgh %", ["abcdefgh", "%"]),
        ):
            self.assertEqual(tokens_of(text), wanted)
            self.assertEqual(tokens_of(text=text), wanted)

    def test_nothing_else_parts_tokens(self):
        for sign in "\t\r\v\f\x1c\x1d\x1e\x1f\x85\u00a0\u2003\u2028\u3000":
            self.assertEqual(tokens_of(f"a{sign}b {sign}"), [f"a{sign}b", sign])

    def test_a_new_list(self):
        told = tokens_of("a b")
        told.append("c")
        self.assertEqual(tokens_of("a b"), ["a", "b"])
        self.assertIs(type(told), list)


class ManyTexts(unittest.TestCase):
    """Readings and refusals of many small books, held against what their rows say."""

    def check_reading(self, book, text, wanted):
        tokens, meaning, spots, kinds = wanted
        reading = read(book, text)
        self.assertEqual(reading.meaning, meaning)
        self.assertEqual(reading.kind, meaning[0])
        self.assertEqual((reading.tokens, reading.spots, reading.kinds), (tokens, spots, kinds))
        self.assertEqual((len(reading), str(reading)), (len(tokens), text))

    def test_texts(self):
        for told, book in good_books(Random(17), 120, 6):
            with self.subTest(forms=told.forms):
                texts = told.texts(6)
                for text, wanted in texts.items():
                    self.check_reading(book, text, wanted)

    def test_equal_meanings(self):
        same = other = 0
        for told, book in good_books(Random(18), 60, 6):
            texts = list(told.texts(5).items())[:25]
            readings = [read(book, text) for text, _ in texts]
            for (_, one_told), first in zip(texts, readings):
                for (_, other_told), second in zip(texts, readings):
                    wanted = one_told[1] == other_told[1]
                    self.assertIs(first == second, wanted)
                    self.assertIs(first != second, not wanted)
                    same += wanted and one_told[0] != other_told[0]
                    other += not wanted
        self.assertGreater(same, 200)
        self.assertGreater(other, 1000)

    def test_refusals(self):
        refused = 0
        for told, book in good_books(Random(19), 60, 5):
            strangers = ["k", "?"]
            texts = told.texts(4)
            awaited = {}
            for length in range(4):
                for tokens in product([*told.tokens, *strangers], repeat=length):
                    text = " ".join(tokens)
                    if text in texts:
                        self.assertIsNone(refusal(book, text))
                        continue
                    at = next((at for at in range(length) if not told.goes_on(tokens[:at + 1])), length)
                    if tokens[:at] not in awaited:
                        awaited[tokens[:at]] = told.awaited(tokens[:at])
                    with self.subTest(forms=told.forms, tokens=tokens):
                        self.assertEqual(refusal(book, text), (at, 1, awaited[tokens[:at]]))
                        refused += 1
        self.assertGreater(refused, 3000)


class Meanings(unittest.TestCase):
    def test_the_example(self):
        self.assertEqual(read(EXAMPLE, "( x , )").meaning, ("doc", (("item", ("tuple", (("item", "x"),))),)))
        self.assertEqual(read(book=EXAMPLE, text="[ ]").meaning, ("doc", (("item", ("list", ())),)))
        self.assertEqual(read(EXAMPLE, "[ s s , s ]").meaning, (
            "doc", (("item", ("list", (("new", "s"), ("joined", "s"), ("new", "s")))),),
        ))

    def test_groups_in_groups(self):
        reading = read(EXAMPLE, "( ( x ) , [ s s ] , )")
        self.assertEqual(reading.meaning, ("doc", (("item", ("tuple", (
            ("item", ("group", (("item", "x"),))), ("item", ("list", (("new", "s"), ("joined", "s")))),
        ))),)))
        self.assertEqual(reading.kind, "doc")
        self.assertEqual(reading.kinds, (
            "tuple", "group", "group", "group", "tuple", "list", "list", "list", "list", "tuple", "tuple",
        ))
        self.assertEqual(reading.spots, (
            ("round", "open"), ("round", "open"), ("round", "item"), ("round", "close"), ("round", "between"),
            ("list", "open"), ("list", "new"), ("list", "joined"), ("list", "close"), ("round", "between"),
            ("round", "close"),
        ))

    def test_plain_tokens_of_the_whole_row(self):
        book = Book(Form.whole(pair=one("a", "left") + one(":", "colon") + one("a", "right"), none=nothing()),
                    words=["a"], signs=[":"])
        reading = read(book, "a : a")
        self.assertEqual(reading.meaning, ("pair", (("left", "a"), ("right", "a"))))
        self.assertEqual(reading.spots, (("whole", "left"), ("whole", "colon"), ("whole", "right")))
        self.assertEqual((reading.kind, reading.kinds), ("pair", ("pair", "pair", "pair")))
        reading = read(book, " \n")
        self.assertEqual((reading.meaning, reading.kind, reading.tokens, reading.spots, reading.kinds, len(reading),
                          str(reading)), (("none", ()), "none", (), (), (), 0, ""))

    def test_roles_and_kinds_called_like_brackets(self):
        book = Book(Form.whole(closed=one("a", "close") | one("open", "open")),
                    Form("close", "(", ")", open=one("a", "open") + -one("b", "close")), words=["a"], signs=["b"])
        reading = read(book, "( a b )")
        self.assertEqual(reading.meaning, ("closed", (("open", ("open", (("open", "a"),))),)))
        self.assertEqual(reading.spots, (("close", "open"), ("close", "open"), ("close", "close"), ("close", "close")))
        self.assertEqual(reading.kinds, ("open",) * 4)

    def test_attributes_are_tuples(self):
        reading = read(EXAMPLE, "( x\n\n, [ ]  )")
        self.assertEqual(reading.tokens, ("(", "x", ",", "[", "]", ")"))
        for told in (reading.tokens, reading.meaning, reading.spots, reading.kinds):
            self.assertIs(type(told), tuple)
        self.assertEqual((str(reading), len(reading)), ("( x , [ ] )", 6))

    def test_one_row_alone_stands_for_a_group_in_its_row(self):
        self.assertEqual(read(EXAMPLE, "[ ( x ) ]").kinds, ("list", "group", "group", "group", "list"))


class EqualMeanings(unittest.TestCase):
    def test_signs_are_no_part(self):
        self.assertTrue(read(EXAMPLE, "[ x , ]") == read(EXAMPLE, "[ x ]"))
        self.assertTrue(read(EXAMPLE, "( x , x , )") == read(EXAMPLE, "( x ,\n x )"))
        self.assertFalse(read(EXAMPLE, "( x , )") == read(EXAMPLE, "( x )"))
        self.assertFalse(read(EXAMPLE, "[ s , s ]") == read(EXAMPLE, "[ s s ]"))
        self.assertTrue(read(EXAMPLE, "[ s s ]") != read(EXAMPLE, "[ s , s ]"))

    def test_two_books(self):
        x = one("x", "item")
        first = Book(Form.whole(doc=x | one("k", "item")), Form("f", "(", ")", k=~x), words=["x"], signs=[])
        second = Book(Form.whole(d=x + x, doc=x | one("k", "item")), Form("g", "<", ">", k=x >> one("x", "dot")),
                      words=["x"], signs=[])
        third = Book(Form.whole(doc=one("k", "item")), Form("g", "<", ">", k=x // one(",")), words=["x"], signs=[","])
        fourth = Book(Form.whole(doc=one("k", "part")), Form("g", "<", ">", k=x // one(",")), words=["x"], signs=[","])
        self.assertTrue(read(first, "x") == read(second, "x"))
        self.assertTrue(read(first, "( x x )") == read(third, "< x , x >"))
        self.assertFalse(read(first, "( x x )") == read(second, "< x x >"))
        self.assertFalse(read(first, "( x x )") == read(fourth, "< x , x >"))
        self.assertFalse(read(first, "( x )") == read(first, "( x x )"))

    def test_what_differs_in_one_thing(self):
        a, b = one("a", "r"), one("b", "r")
        k, m, n = one("k", "r"), one("m", "r"), one("n", "r")
        book = Book(Form.whole(doc=~(a | b | k | m | n), d=one(",") + ~(a | k)),
                    Form("f", "(", ")", k=~(a | k)), Form("g", "[", "]", m=~(a | m), n=one(";") + ~(a | k)),
                    words=["a", "b"], signs=[",", ";"])
        texts = ["", "a", "b", "a a", "a b", "b a", ", a", ",", "( )", "[ ]", "[ ; ]", "( ) a", "( a )", "a ( )",
                 "( ( ) )", "( ( ) a )", "( ( a ) )", "( ) ( )", "[ [ ] ]", "[ ; ( ) ]", ", ( )", "( ( ) ) ( )",
                 "( ( ) ( ) )", "[ a ]", "[ ; a ]"]
        for one_text in texts:
            for other in texts:
                self.assertIs(read(book, one_text) == read(book, other), one_text == other, (one_text, other))

    def test_nothing_of_another_class(self):
        reading = read(EXAMPLE, "x")
        for other in (None, True, 1, "x", reading.meaning, reading.tokens, EXAMPLE):
            self.assertIs(reading == other, False)
            self.assertIs(reading != other, True)


class Refusals(unittest.TestCase):
    def test_the_example(self):
        self.assertEqual(refusal(EXAMPLE, "( x x"), (2, 1, (",", ")")))

    def test_first_token(self):
        awaited = ("x", "(", "[")
        for text in (",", ")", "] x", "s", "y x", "tuple", "%", "xx"):
            self.assertEqual(refusal(EXAMPLE, text), (0, 1, awaited))

    def test_in_the_middle(self):
        self.assertEqual(refusal(EXAMPLE, "( ( x , , ) )"), (4, 1, ("x", "(", ")", "[")))
        self.assertEqual(refusal(EXAMPLE, "[ x )"), (2, 1, (",", "]")))
        self.assertEqual(refusal(EXAMPLE, "[ s s x ]"), (3, 1, ("s", ",", "]")))
        self.assertEqual(refusal(EXAMPLE, "x x"), (1, 1, ("",)))
        self.assertEqual(refusal(EXAMPLE, "( x , ) ]"), (4, 1, ("",)))

    def test_at_the_end(self):
        self.assertEqual(refusal(EXAMPLE, "( x"), (2, 1, (",", ")")))
        self.assertEqual(refusal(EXAMPLE, "[ ( x )"), (4, 1, (",", "]")))
        self.assertEqual(refusal(EXAMPLE, "( x ,\n\n( x\n\n"), (5, 3, (",", ")")))

    def test_empty_text(self):
        for text in ("", " ", "\n\n"):
            self.assertEqual(refusal(EXAMPLE, text), (0, 1, ("x", "(", "[")))

    def test_lines(self):
        self.assertEqual(refusal(EXAMPLE, "\n\n,"), (0, 3, ("x", "(", "[")))
        self.assertEqual(refusal(EXAMPLE, "(\nx\nx )"), (2, 3, (",", ")")))
        self.assertEqual(refusal(EXAMPLE, "( x\n x ) \n\n"), (2, 2, (",", ")")))
        self.assertEqual(refusal(EXAMPLE, "( x ( ) \n\n ( )"), (2, 1, (",", ")")))
        self.assertEqual(refusal(EXAMPLE, "\n( \n"), (1, 2, ("x", "(", "[")))
        self.assertEqual(refusal(EXAMPLE, "\n\n  ( \n x \n\n , y"), (3, 6, ("x", "(", ")", "[")))

    def test_other_white_space(self):
        self.assertEqual(refusal(EXAMPLE, "(\tx )"), (0, 1, ("x", "(", "[")))
        self.assertEqual(refusal(EXAMPLE, "( x \r\n)"), (2, 1, (",", ")")))

    def test_awaited_is_in_the_order_of_the_tokens_and_then_the_end(self):
        x = one("x")
        whole = Form.whole(doc=~(x | one("y") | one("k") | one("m") | one(";") | one(",")))
        forms = [whole, Form("f", ">", "<", k=nothing()), Form("g", "!", "~", m=nothing())]
        book = Book(*forms, words=["y", "x"], signs=[";", ","])
        self.assertEqual(refusal(book, "?"), (0, 1, ("y", "x", ";", ",", ">", "!", "")))
        self.assertEqual(refusal(book, "x > !"), (2, 1, ("<",)))

    def test_kinds_that_a_group_can_still_get(self):
        item = one("x", "item")
        many = (item >> one(",")) + -item
        book = Book(Form.whole(doc=one("tuple") + -one("any")), Form("round", "(", ")", group=item, tuple=many),
                    Form("any", "[", "]", any=one("group") | one("tuple")), words=["x"], signs=[","])
        self.assertEqual(refusal(book, "( x"), (2, 1, (",",)))
        self.assertEqual(refusal(book, "( x )"), (2, 1, (",",)))
        self.assertEqual(refusal(book, "( x ,"), (3, 1, ("x", ")")))
        self.assertEqual(refusal(book, "( x , ) [ ( x"), (7, 1, (",", ")")))
        self.assertEqual(refusal(book, "( x , ) [ ( x )"), (8, 1, ("]",)))

    def test_kinds_are_counted_through_several_groups(self):
        # A "big" needs a "deep" in it, a "low" needs none; only a "big" may stand in the text.
        x, deep, flat = one("x"), one("deep"), one("flat")
        book = Book(Form.whole(doc=one("big") | x + one("low")),
                    Form("f", "(", ")", big=x + deep, low=x + flat),
                    Form("g", "[", "]", deep=x + x, flat=-x), words=["x"], signs=[])
        self.assertEqual(refusal(book, "( x ["), (3, 1, ("x",)))
        self.assertEqual(refusal(book, "( x [ x ]"), (4, 1, ("x",)))
        self.assertEqual(refusal(book, "x ( x ["), (4, 1, ("x", "]")))
        self.assertEqual(refusal(book, "x ( x [ x"), (5, 1, ("]",)))

    def test_an_opener_that_leads_to_no_kind(self):
        x = one("x")
        book = Book(Form.whole(doc=one("k") | one("m")), Form("f", "(", ")", k=x + -one("n"), m=one(",") + one("n")),
                    Form("g", "[", "]", n=x), words=["x"], signs=[","])
        self.assertEqual(refusal(book, "["), (0, 1, ("(",)))
        self.assertEqual(refusal(book, "( ["), (1, 1, ("x", ",")))
        self.assertEqual(refusal(book, "( x ("), (2, 1, (")", "[")))

    def test_kinds_of_the_whole_row(self):
        x, y = one("x"), one("y")
        book = Book(Form.whole(short=x, long=x + y * 3), words=["x", "y"], signs=[])
        self.assertEqual(refusal(book, "x x"), (1, 1, ("y", "")))
        self.assertEqual(refusal(book, "x y"), (2, 1, ("y",)))


class Large(unittest.TestCase):
    def test_four_hundred_tokens(self):
        text = "[ " + "x , " * 199 + "]"
        reading = read(EXAMPLE, text)
        self.assertEqual((len(reading), str(reading), len(reading.meaning[1][0][1][1])), (400, text, 199))
        self.assertEqual(set(reading.spots[1:-1]), {("list", "item"), ("list", "between")})
        self.assertTrue(reading == read(EXAMPLE, text.replace(" , ]", " ]")))
        self.assertEqual(refusal(EXAMPLE, text[:-2]), (399, 1, ("x", "s", "(", "[", "]")))

    def test_groups_150_deep(self):
        text = "( " * 150 + "x" + " )" * 150
        reading = read(EXAMPLE, text)
        self.assertEqual(reading.kinds, ("group",) * 301)
        meaning = reading.meaning
        for _ in range(151):
            (role, meaning), = meaning[1]
            self.assertEqual(role, "item")
        self.assertEqual(meaning, "x")
        self.assertTrue(reading == read(EXAMPLE, text))
        other = read(EXAMPLE, "( " * 150 + "x ," + " )" * 150)
        self.assertFalse(reading == other)
        self.assertEqual(other.kinds[149:153], ("tuple",) * 4)
        self.assertEqual(refusal(EXAMPLE, text + " )"), (301, 1, ("",)))
        self.assertEqual(refusal(EXAMPLE, text[:-2]), (300, 1, (",", ")")))

    def test_deeper_than_any_reader(self):
        text = "( " * 1500 + "x" + " )" * 1500
        self.assertTrue(read(EXAMPLE, text) == read(EXAMPLE, text))
        self.assertEqual(len(read(EXAMPLE, text)), 3001)


class Interface(unittest.TestCase):
    def test_defined_in_the_class_itself(self):
        for name in ("__len__", "__str__", "__eq__"):
            self.assertIn(name, vars(Reading))
        for thing in (read, tokens_of, Reading):
            self.assertEqual(thing.__module__, "silentslips.reading")
        self.assertIs(type(read(EXAMPLE, "x")), Reading)


if __name__ == "__main__":
    unittest.main()
