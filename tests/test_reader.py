import unittest
from random import Random

from silentslips.books import Book
from silentslips.errors import BadCount, Refused, SlipError, TooDeep, TooFew
from silentslips.forms import Form
from silentslips.patterns import nothing, one
from silentslips.reading import Reader, Reading, read
from tests.told_books import example, good_books

EXAMPLE = example().book()


def fed_with(text, book=EXAMPLE):
    reader = Reader(book)
    reader.feed_all(text)
    return reader


class Cases(unittest.TestCase):
    def seen(self, reader):
        return reader.fed, reader.depth, reader.expected, reader.limit

    def check_raises(self, call, reader, error, **fields):
        """The call raises this error with these fields, and the reader is as it was."""
        held = self.seen(reader)
        with self.assertRaises(error) as caught:
            call()
        self.assertIs(type(caught.exception), error)
        found = {name: getattr(caught.exception, name) for name in fields}
        self.assertEqual(found, fields)
        self.assertEqual({name: type(value) for name, value in found.items()},
                         {name: type(value) for name, value in fields.items()})
        self.assertEqual(self.seen(reader), held)


class Feeding(Cases):
    def test_token_by_token(self):
        reader = Reader(EXAMPLE)
        self.assertEqual(self.seen(reader), ((), 0, ("x", "(", "["), 150))
        for token, depth, expected in (
            ("(", 1, ("x", "(", "[")), ("[", 2, ("x", "s", "(", "[", "]")), ("s", 2, ("s", ",", "]")),
            ("]", 1, (",", ")")), (",", 1, ("x", "(", ")", "[")), (")", 0, ("",)),
        ):
            before = reader.fed
            self.assertIsNone(reader.feed(token))
            self.assertEqual(self.seen(reader), ((*before, token), depth, expected, 150))
            for told in (reader.fed, reader.expected):
                self.assertIs(type(told), tuple)
        self.assertEqual(reader.done().meaning, read(EXAMPLE, "( [ s ] , )").meaning)
        self.assertIs(type(reader.done()), Reading)

    def test_by_name(self):
        reader = Reader(book=EXAMPLE)
        reader.feed(token="[")
        reader.feed_all(text="x , ]")
        reader.back(count=2)
        reader.set_limit(count=7)
        self.assertEqual((reader.fed, reader.limit), (("[", "x"), 7))

    def test_any_string(self):
        reader = fed_with("( x")
        for token in ("", " ", "\n", ", ", " ,", ", x", "x", "(", "]", "tuple", "round", "%", "abcdef", ",\t"):
            self.check_raises(lambda: reader.feed(token), reader, Refused, at=2, line=None, awaited=(",", ")"))
        reader.feed(",")
        self.assertEqual(reader.fed, ("(", "x", ","))

    def test_the_empty_string_is_no_token(self):
        book = Book(Form.whole(doc=~one("k")), Form("f", "(", ")", k=nothing()), words=[], signs=[])
        reader = Reader(book)
        self.assertEqual(reader.expected, ("(", ""))
        self.check_raises(lambda: reader.feed(""), reader, Refused, at=0, line=None, awaited=("(", ""))
        reader.feed_all("")
        reader.feed_all(" \n ")
        self.assertEqual((reader.fed, str(reader.done())), ((), ""))
        reader.feed_all("( ) ( )")
        self.check_raises(lambda: reader.feed(""), reader, Refused, at=4, line=None, awaited=("(", ""))

    def test_feed_all_takes_all_or_none(self):
        reader = fed_with(" (\n x ,")
        self.assertEqual((reader.fed, reader.feed_all("[ s ] , ")), (("(", "x", ","), None))
        self.assertEqual(reader.fed, ("(", "x", ",", "[", "s", "]", ","))
        self.check_raises(lambda: reader.feed_all(", )"), reader, Refused, at=7, line=None,
                          awaited=("x", "(", ")", "["))
        self.check_raises(lambda: reader.feed_all("x\n,\n( x\n) )\n x"), reader, Refused, at=13, line=None, awaited=("",))
        self.check_raises(lambda: reader.feed_all("x\t"), reader, Refused, at=7, line=None, awaited=("x", "(", ")", "["))
        reader.feed_all("x , ( x ) )")
        self.assertEqual(str(reader.done()), "( x , [ s ] , x , ( x ) )")

    def test_kinds_that_a_group_can_still_get(self):
        item = one("x", "item")
        book = Book(Form.whole(doc=one("tuple") + -one("any")),
                    Form("round", "(", ")", group=item, tuple=(item >> one(",")) + -item),
                    Form("any", "[", "]", any=one("group") | one("tuple")), words=["x"], signs=[","])
        self.assertEqual(fed_with("( x", book).expected, (",",))
        self.assertEqual(fed_with("( x ,", book).expected, ("x", ")"))
        self.assertEqual(fed_with("( x , )", book).expected, ("[", ""))
        self.assertEqual(fed_with("( x , ) [ ( x", book).expected, (",", ")"))
        reader = fed_with("( x", book)
        self.check_raises(lambda: reader.feed(")"), reader, Refused, at=2, line=None, awaited=(",",))


class Done(Cases):
    def test_not_yet(self):
        reader = Reader(EXAMPLE)
        self.check_raises(reader.done, reader, Refused, at=0, line=None, awaited=("x", "(", "["))
        reader.feed_all("( x")
        self.check_raises(reader.done, reader, Refused, at=2, line=None, awaited=(",", ")"))
        reader.feed(")")
        self.assertEqual(reader.done().meaning, ("doc", (("item", ("group", (("item", "x"),))),)))

    def test_the_reader_goes_on(self):
        book = Book(Form.whole(doc=~one("x")), words=["x"], signs=[])
        reader = Reader(book)
        readings = []
        for _ in range(4):
            readings.append(reader.done())
            reader.feed("x")
        self.assertEqual([len(reading) for reading in readings], [0, 1, 2, 3])
        self.assertEqual(readings[2].tokens, ("x", "x"))


class Back(Cases):
    def test_some_tokens(self):
        reader = fed_with("( [ s ] , ( x ) )")
        steps = []
        while reader.fed:
            steps.append((reader.fed, reader.depth, reader.expected))
            self.assertIsNone(reader.back())
        for fed, depth, expected in steps:
            other = fed_with(" ".join(fed))
            self.assertEqual((other.fed, other.depth, other.expected), (fed, depth, expected))
        for count in range(10):
            reader.feed_all("( [ s ] , ( x ) )")
            reader.back(count)
            self.assertEqual(reader.fed, tuple("( [ s ] , ( x ) )".split())[:9 - count])
            self.assertEqual(reader.expected, fed_with(" ".join(reader.fed)).expected)
            reader.back(9 - count)

    def test_other_tokens_behind_it(self):
        reader = fed_with("( x , x , )")
        reader.back(4)
        self.assertEqual((reader.fed, reader.expected), (("(", "x"), (",", ")")))
        reader.feed(")")
        self.assertEqual(str(reader.done()), "( x )")

    def test_wrong_counts(self):
        reader = fed_with("( x")
        for count in (-1, -2, -(10 ** 29)):
            self.check_raises(lambda: reader.back(count), reader, BadCount, count=count)
        for count in (3, 4, 10 ** 29):
            self.check_raises(lambda: reader.back(count), reader, TooFew, count=count)
        empty = Reader(EXAMPLE)
        self.check_raises(empty.back, empty, TooFew, count=1)
        self.check_raises(lambda: empty.back(-1), empty, BadCount, count=-1)
        empty.back(0)
        reader.back(0)
        self.assertEqual((empty.fed, reader.fed), ((), ("(", "x")))
        with self.assertRaises(LookupError):
            empty.back()
        with self.assertRaises(SlipError):
            empty.back(-1)


class Limits(Cases):
    def test_150_at_the_beginning(self):
        self.assertEqual((Reader.LIMIT, Reader(EXAMPLE).LIMIT, Reader(EXAMPLE).limit), (150, 150, 150))
        reader = fed_with("( " * 150)
        self.assertEqual(reader.depth, 150)
        self.check_raises(lambda: reader.feed("("), reader, TooDeep, at=150)
        self.check_raises(lambda: reader.feed("["), reader, TooDeep, at=150)
        reader.feed_all("x" + " )" * 150)
        self.assertEqual(len(reader.done()), 301)
        other = Reader(EXAMPLE)
        self.check_raises(lambda: other.feed_all("( " * 151 + "x" + " )" * 151), other, TooDeep, at=150)

    def test_both_ways_to_set_it(self):
        reader = Reader(EXAMPLE)
        reader.limit = 2
        self.assertEqual((reader.limit, reader.LIMIT), (2, 150))
        self.assertIsNone(reader.set_limit(1))
        self.assertEqual(reader.limit, 1)
        for count in (-1, -(10 ** 29)):
            self.check_raises(lambda: reader.set_limit(count), reader, BadCount, count=count)
            self.check_raises(lambda: setattr(reader, "limit", count), reader, BadCount, count=count)
        reader.set_limit(10 ** 29)
        self.assertEqual(reader.limit, 10 ** 29)

    def test_limit_of_zero(self):
        reader = Reader(EXAMPLE)
        reader.limit = 0
        self.assertEqual(reader.expected, ("x", "(", "["))
        for token in ("(", "["):
            self.check_raises(lambda: reader.feed(token), reader, TooDeep, at=0)
        self.check_raises(lambda: reader.feed_all("( x )"), reader, TooDeep, at=0)
        reader.feed("x")
        self.assertEqual(reader.done().meaning, ("doc", (("item", "x"),)))

    def test_lowered_below_the_depth(self):
        reader = fed_with("( ( ( x")
        reader.limit = 1
        self.assertEqual((reader.depth, reader.expected), (3, (",", ")")))
        reader.feed_all(", x ) ,")
        self.assertEqual(reader.expected, ("x", "(", ")", "["))
        self.check_raises(lambda: reader.feed("("), reader, TooDeep, at=8)
        self.check_raises(lambda: reader.feed_all("x , ["), reader, TooDeep, at=10)
        reader.back(5)
        self.assertEqual(reader.fed, ("(", "(", "("))
        reader.feed_all("x ) ) ,")
        self.assertEqual(reader.depth, 1)
        self.check_raises(lambda: reader.feed("["), reader, TooDeep, at=7)
        reader.limit = 2
        reader.feed_all("[ ] )")
        self.assertEqual(str(reader.done()), "( ( ( x ) ) , [ ] )")

    def test_refused_comes_first(self):
        reader = fed_with("( x")
        reader.limit = 0
        for token in ("(", "[", "x", "]"):
            self.check_raises(lambda: reader.feed(token), reader, Refused, at=2, line=None, awaited=(",", ")"))
        self.check_raises(lambda: reader.feed_all(", ("), reader, TooDeep, at=3)
        self.check_raises(lambda: reader.feed_all(", ( )"), reader, TooDeep, at=3)
        self.check_raises(lambda: reader.feed_all(", , ("), reader, Refused, at=3, line=None,
                          awaited=("x", "(", ")", "["))

    def test_a_group_that_ends_makes_room(self):
        reader = Reader(EXAMPLE)
        reader.set_limit(2)
        reader.feed_all("( ( x ) , [ ] , ( [ ] ) )"[:-9])
        self.assertEqual(reader.depth, 1)
        reader.feed("(")
        self.check_raises(lambda: reader.feed("["), reader, TooDeep, at=9)

    def test_read_has_no_limit(self):
        self.assertEqual(len(read(EXAMPLE, "( " * 160 + "x" + " )" * 160)), 321)


class Copies(Cases):
    def test_they_go_on_apart(self):
        reader = fed_with("( x")
        reader.limit = 5
        other = reader.copy()
        self.assertIs(type(other), Reader)
        self.assertEqual(self.seen(other), self.seen(reader))
        reader.feed_all(", ( x ) )")
        self.assertEqual(self.seen(other), (("(", "x"), 1, (",", ")"), 5))
        other.feed(")")
        other.limit = 1
        self.assertEqual((str(reader.done()), str(other.done()), reader.limit), ("( x , ( x ) )", "( x )", 5))
        reader.back(5)
        self.assertEqual((reader.fed, other.fed), (("(", "x"), ("(", "x", ")")))
        other.back(3)
        self.assertEqual((other.fed, other.expected, reader.depth), ((), ("x", "(", "["), 1))

    def test_a_copy_of_a_copy(self):
        readers = [Reader(EXAMPLE)]
        for token in "( x , )".split():
            readers.append(readers[-1].copy())
            readers[-1].feed(token)
        self.assertEqual([len(reader.fed) for reader in readers], [0, 1, 2, 3, 4])


class ManySteps(Cases):
    """Readers that are led about, held against what the told books say, and against read."""

    def walk(self, told, book, random):
        reader, tokens = Reader(book), []
        for _ in range(25):
            awaited = told.awaited(tuple(tokens)) if len(tokens) < 5 else None
            if awaited is not None:
                self.assertEqual(reader.expected, awaited)
            self.assertEqual(reader.fed, tuple(tokens))
            opened = sum(token in ("(", "[") for token in tokens) - sum(token in (")", "]") for token in tokens)
            self.assertEqual(reader.depth, opened)
            self.check_done(book, reader, tokens)
            token = random.choice([*told.tokens, *reader.expected, *reader.expected, "?", "k"])
            if random.random() < 0.2 or len(tokens) > 7:
                count = random.randint(0, len(tokens))
                reader.back(count)
                tokens = tokens[:len(tokens) - count]
            elif token in reader.expected and token != "":
                reader.feed(token)
                tokens.append(token)
            else:
                self.check_raises(lambda: reader.feed(token), reader, Refused, at=len(tokens), line=None,
                                  awaited=reader.expected)

    def check_done(self, book, reader, tokens):
        if " ".join(tokens) in book:
            self.assertTrue(reader.done() == read(book, " ".join(tokens)))
            self.assertEqual(reader.done().spots, read(book, " ".join(tokens)).spots)
            self.assertIn("", reader.expected)
            return
        self.check_raises(reader.done, reader, Refused, at=len(tokens), line=None, awaited=reader.expected)
        with self.assertRaises(Refused) as caught:
            read(book, " ".join(tokens))
        self.assertEqual((caught.exception.at, caught.exception.awaited), (len(tokens), reader.expected))

    def test_many_books(self):
        random = Random(20)
        for told, book in good_books(random, 60, 5):
            with self.subTest(forms=told.forms):
                self.walk(told, book, random)

    def test_four_hundred_tokens(self):
        reader = Reader(EXAMPLE)
        for token in ("[ " + "x , " * 199 + "]").split():
            self.assertIn(token, reader.expected)
            reader.feed(token)
        self.assertEqual((len(reader.done()), reader.expected), (400, ("",)))
        reader.back(399)
        self.assertEqual(reader.fed, ("[",))


class Interface(unittest.TestCase):
    def test_defined_in_the_class_itself(self):
        for name in ("fed", "depth", "expected", "limit"):
            self.assertIsInstance(vars(Reader)[name], property)
        for name in ("__init__", "set_limit", "feed", "feed_all", "back", "done", "copy", "LIMIT"):
            self.assertIn(name, vars(Reader))
        self.assertEqual(Reader.__module__, "silentslips.reading")

    def test_equal_to_nothing_of_another_class(self):
        for other in (None, 0, "", (), EXAMPLE):
            self.assertFalse(Reader(EXAMPLE) == other)


if __name__ == "__main__":
    unittest.main()
