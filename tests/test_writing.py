"""Meanings as texts: point 35."""

import unittest
from random import Random

from silentslips.books import Book
from silentslips.errors import Unwritten
from silentslips.forms import Form
from silentslips.patterns import nothing, one
from silentslips.reading import read
from silentslips.writing import write
from tests.told_books import example, good_books

EXAMPLE = example().book()
X = ("item", "x")


def doc(*things):
    return ("doc", tuple(("item", thing) for thing in things))


def group(kind, *parts):
    return (kind, tuple(parts))


class Checked(unittest.TestCase):
    def check(self, book, meaning, text):
        self.assertEqual(write(book, meaning), text)
        self.assertEqual(read(book, text).meaning, meaning)

    def refuse(self, book, value, path):
        with self.assertRaises(Unwritten) as caught:
            write(book, value)
        self.assertEqual(caught.exception.path, path)
        self.assertIs(type(caught.exception.path), tuple)


class Writing(Checked):
    def test_the_example(self):
        for meaning, text in (
            (doc("x"), "x"), (doc(group("list")), "[ ]"), (doc(group("group", X)), "( x )"),
            (doc(group("tuple", X)), "( x , )"), (doc(group("tuple", X, X)), "( x , x )"),
            (doc(group("list", X, X)), "[ x , x ]"), (doc(group("list", ("new", "s"), ("joined", "s"))), "[ s s ]"),
            (doc(group("list", ("new", "s"), ("new", "s"), X)), "[ s , s , x ]"),
            (doc(group("tuple", ("item", group("list", ("item", group("group", X)))))), "( [ ( x ) ] , )"),
        ):
            self.check(EXAMPLE, meaning, text)
        self.assertEqual(write(meaning=doc("x"), book=EXAMPLE), "x")

    def test_the_least_of_several_texts(self):
        mark = one(",") | one(";") + one(";")
        book = Book(Form.whole(doc=one("x", "r") + (mark | one("!")) + one("x", "r") + -mark), words=["x"], signs=[",", ";", "!"])
        self.check(book, ("doc", (("r", "x"), ("r", "x"))), "x , x")
        book = Book(Form.whole(doc=one("x", "r") + (mark | one("!")) + one("x", "r") + -mark), words=["x"], signs=["!", ",", ";"])
        self.check(book, ("doc", (("r", "x"), ("r", "x"))), "x ! x")
        book = Book(Form.whole(doc=one(";") * 2 + one("x") | one(",") * 2 + one("x")), words=["x"], signs=[",", ";"])
        self.check(book, ("doc", (("plain", "x"),)), ", , x")

    def test_the_shorter_text_comes_first(self):
        book = Book(Form.whole(doc=one("a") + (one(",") * 3 + one("x", "r") | one(";") + one("x", "r")) + ~one("!")),
                    words=["a", "x"], signs=[",", "!", ";"])
        self.check(book, ("doc", (("plain", "a"), ("r", "x"))), "a ; x")

    def test_signs_around_and_between(self):
        comma, end = one(","), one(";")
        book = Book(Form.whole(doc=+comma + one("x") + comma * 3 + (one("x") + end | one("y") + end * 2)),
                    words=["x", "y"], signs=[",", ";"])
        self.check(book, ("doc", (("plain", "x"), ("plain", "x"))), ", x , , , x ;")
        self.check(book, ("doc", (("plain", "x"), ("plain", "y"))), ", x , , , y ; ;")

    def test_kinds_tell_rows_with_the_same_parts_apart(self):
        book = Book(Form.whole(doc=one("x"), all=one("x") + one(",")), words=["x"], signs=[","])
        self.check(book, ("doc", (("plain", "x"),)), "x")
        self.check(book, ("all", (("plain", "x"),)), "x ,")

    def test_roles_tell_words_apart(self):
        book = Book(Form.whole(doc=one("x", "a") | one(",") + one("x", "b")), words=["x"], signs=[","])
        self.check(book, ("doc", (("a", "x"),)), "x")
        self.check(book, ("doc", (("b", "x"),)), ", x")

    def test_longer_words(self):
        book = Book(Form.whole(doc=one("word", "r") + one(":=", "is") + one("abcd", "r")), words=["abcd", "word"], signs=[":="])
        self.check(book, ("doc", (("r", "word"), ("r", "abcd"))), "word := abcd")
        self.refuse(book, ("doc", (("r", "w"), ("r", "abcd"))), ())

    def test_nothing(self):
        self.check(Book(Form.whole(doc=~one(",")), words=[], signs=[","]), ("doc", ()), "")
        self.check(Book(Form.whole(doc=one(",") * 2), words=[], signs=[","]), ("doc", ()), ", ,")

    def test_all_meanings_of_short_texts(self):
        many = 0
        for told, book in good_books(Random(91), 200, 8):
            least = {}
            for text, entry in told.texts(6).items():
                least.setdefault(entry[1], text)
            for meaning, text in least.items():
                self.check(book, meaning, text)
                many += 1
        self.assertGreater(many, 1000)
        for text in EXAMPLE.texts(8):
            self.assertEqual(read(EXAMPLE, write(EXAMPLE, read(EXAMPLE, text).meaning)), read(EXAMPLE, text))

    def test_fifty_groups_in_one_another(self):
        for opener, closer in (("( ", " )"), ("[ ", " ]"), ("( ", " , )")):
            text = opener * 50 + "x" + closer * 50
            self.check(EXAMPLE, read(EXAMPLE, text).meaning, text)

    def test_many_parts(self):
        text = "[ " + "s " * 300 + ", s , x , x ]"
        self.check(EXAMPLE, read(EXAMPLE, text).meaning, text)
        text = "[ " + ", ".join(["( x , ) "] * 200) + "]"
        self.check(EXAMPLE, read(EXAMPLE, text).meaning, text)

    def test_a_text_of_another_writing(self):
        self.assertEqual(write(EXAMPLE, read(EXAMPLE, "\n[ x ,\n x , ]").meaning), "[ x , x ]")


class Unwritable(Checked):
    """Each of the sentences of point 35, at the meaning itself and in its parts."""

    def test_values_that_are_no_tuple_of_kind_and_parts(self):
        for value in (None, True, False, 0, 1, 10 ** 29, "", "doc", "x", [], (), ("doc",), ("doc", (), ()), ["doc", ()],
                      ("doc", []), ("doc", [("item", "x")]), ("doc", "x"), ("doc", None), ("doc", 1), (("doc",), ()),
                      (None, (X,)), (True, (X,)), ([], (X,)), ((), (X,)), (0, (X,)), ("", (X,))):
            self.refuse(EXAMPLE, value, ())

    def test_parts_that_are_no_pairs(self):
        for part in (None, True, 1, "x", "item", (), ("item",), ("x",), ("item", "x", "x"), ["item", "x"], [], [["item", "x"]],
                     ("item", X), (("item", "x"),)):
            self.refuse(EXAMPLE, ("doc", (part,)), ())
            self.refuse(EXAMPLE, doc(group("list", X, part)), (0,))

    def test_other_roles(self):
        for role in ("", "new", "Item", "x", None, True, 0, 1, ("item",), ["item"], (), []):
            self.refuse(EXAMPLE, ("doc", ((role, "x"),)), ())
            self.refuse(EXAMPLE, doc(group("list", (role, "x"))), (0,))
            self.refuse(EXAMPLE, ("doc", ((role, group("list")),)), ())
        self.refuse(EXAMPLE, doc(group("list", ("joined", "s"))), (0,))
        self.refuse(EXAMPLE, doc(group("list", ("new", "s"), ("item", "s"))), (0,))

    def test_words_that_no_row_has(self):
        for word in ("", "y", "X", "x ", " x", "x x", "s", "x\n"):
            self.refuse(EXAMPLE, doc(word), ())
        self.refuse(EXAMPLE, doc(group("group", ("item", "s"))), (0,))

    def test_a_sign_as_a_word(self):
        self.refuse(EXAMPLE, doc(group("list", ("between", ","))), (0,))
        self.refuse(EXAMPLE, doc(group("list", X, ("between", ","), X)), (0,))
        for bracket in ("(", ")", "[", "]"):
            self.refuse(EXAMPLE, doc(group("list", ("open", bracket))), (0,))
        book = Book(Form.whole(doc=one(",", "r") + one("x", "r")), words=["x"], signs=[","])
        self.refuse(book, ("doc", (("r", ","), ("r", "x"))), ())
        self.check(book, ("doc", (("r", "x"),)), ", x")

    def test_the_name_of_a_kind_as_a_word(self):
        for kind in EXAMPLE.kinds:
            self.refuse(EXAMPLE, doc(kind), ())
            self.refuse(EXAMPLE, doc(group("list", X, ("item", kind))), (0,))

    def test_a_word_as_a_kind(self):
        self.refuse(EXAMPLE, doc(("x", ())), ())
        self.refuse(EXAMPLE, doc(("x",)), ())
        self.refuse(EXAMPLE, ("x", ()), ())
        self.refuse(EXAMPLE, doc(group("list", ("between", (",", ())))), (0,))

    def test_things_that_are_neither_word_nor_group(self):
        for thing in (None, True, False, 0, 1, -1, 10 ** 29, [], [()], ["x"], ["group", (X,)], (), ((),), ((), ()), (None,),
                      (["group"], (X,)), (("group",), (X,)), (1, (X,)), (True, (X,)), ("", (X,)), ("y", (X,))):
            self.refuse(EXAMPLE, doc(thing), ())
            self.refuse(EXAMPLE, doc(group("list", X, ("item", thing), X)), (0,))

    def test_the_first_entry_alone_tells_the_kind_of_a_group(self):
        """The row around has a group of this kind; what is wrong is the node itself."""
        for thing in (("group",), ("group", (X,), X), ("group", [X]), ("group", None), ("group", ()), ("group", (X, X)),
                      ("group", "x"), ("group", ((),)), ("list", (("item", "s"),)), ("tuple", ())):
            self.refuse(EXAMPLE, doc(thing), (0,))
            self.refuse(EXAMPLE, doc(group("tuple", X, X, ("item", thing))), (0, 2))

    def test_a_kind_of_brackets_as_the_whole(self):
        self.refuse(EXAMPLE, group("group", X), ())
        self.refuse(EXAMPLE, group("list"), ())
        self.refuse(EXAMPLE, group("tuple", X, X), ())

    def test_a_kind_of_the_whole_form_within(self):
        self.refuse(EXAMPLE, doc(doc("x")), ())
        self.refuse(EXAMPLE, doc(group("list", ("item", doc("x")))), (0,))

    def test_unknown_kinds(self):
        for kind in ("", "whole", "round", "Doc", "docs", "item", "("):
            self.refuse(EXAMPLE, (kind, (X,)), ())
            self.refuse(EXAMPLE, doc((kind, (X,))), ())

    def test_parts_that_no_row_of_the_kind_has(self):
        self.refuse(EXAMPLE, doc(), ())
        self.refuse(EXAMPLE, doc("x", "x"), ())
        self.refuse(EXAMPLE, doc(group("group", X, X)), (0,))
        self.refuse(EXAMPLE, doc(group("tuple")), (0,))
        self.refuse(EXAMPLE, doc(group("list", ("joined", "s"), ("new", "s"))), (0,))
        book = Book(Form.whole(doc=one("x") + one(","), all=one("x") * 2), words=["x"], signs=[","])
        self.refuse(book, ("all", (("plain", "x"),)), ())
        self.refuse(book, ("doc", (("plain", "x"),) * 2), ())

    def test_the_first_unwritten_node(self):
        bad = group("group", X, X)
        good = ("item", group("tuple", X, X))
        self.refuse(EXAMPLE, doc(group("list", good, ("item", bad), ("item", bad))), (0, 1))
        self.refuse(EXAMPLE, doc(group("list", good, ("item", group("list", good, ("item", bad))), ("item", bad))), (0, 1, 1))
        # A node comes before its parts.
        self.refuse(EXAMPLE, doc(group("group", ("item", bad), X)), (0,))
        self.refuse(EXAMPLE, doc(group("list", ("item", group("list", ("item", bad))), ("item", group("tuple")))), (0, 0, 0))
        # Signs do not count in paths, words do.
        self.refuse(EXAMPLE, doc(group("list", X, ("new", "s"), ("joined", "s"), ("item", bad))), (0, 3))

    def test_within_fifty_groups(self):
        value = group("group", X, X)
        for _ in range(49):
            value = group("list", ("item", value))
        self.refuse(EXAMPLE, doc(value), (0,) * 50)

    def test_deep_values(self):
        value = self.deep(lambda told: (told,))
        for wrong in (value, self.deep(lambda told: [told]), ("doc", value), ("doc", (value,)), doc(value), doc([value]),
                      ("doc", ((value, "x"),))):
            self.refuse(EXAMPLE, wrong, ())

    def deep(self, make):
        value = "x"
        for _ in range(150):
            value = make(value)
        return value

    def test_changed_meanings_of_many_books(self):
        """Meanings in which one thing is replaced: what is written then is read so, or no short text has it."""
        random = Random(92)
        met = {True: 0, False: 0}
        for told, book in good_books(random, 60, 7):
            meanings = {entry[1] for entry in told.texts(6).values()}
            for meaning in random.sample(sorted(meanings, key=repr), min(len(meanings), 12)):
                changed = self.changed(meaning, random)
                try:
                    text = write(book, changed)
                except Unwritten:
                    self.assertNotIn(changed, meanings)
                    met[False] += 1
                else:
                    self.assertEqual(read(book, text).meaning, changed)
                    met[True] += 1
        self.assertGreater(min(met.values()), 50)

    def changed(self, meaning, random):
        """The meaning with another kind, role or thing somewhere."""
        kind, parts = meaning
        if not parts or random.random() < 0.2:
            return (random.choice(["doc", "all", "k", "n"]), parts)
        at = random.randrange(len(parts))
        role, thing = parts[at]
        if isinstance(thing, tuple) and random.random() < 0.6:
            thing = self.changed(thing, random)
        else:
            role, thing = random.choice([("r", thing), ("s", thing), (role, "a"), (role, "b"), (role, ("k", ()))])
        return (kind, (*parts[:at], (role, thing), *parts[at + 1:]))


class Interface(unittest.TestCase):
    def test_defined_in_the_file_itself(self):
        self.assertEqual(write.__module__, "silentslips.writing")

    def test_no_words(self):
        book = Book(Form.whole(doc=nothing()), words=[], signs=[])
        self.assertEqual(write(book, ("doc", ())), "")
        with self.assertRaises(Unwritten):
            write(book, ("doc", ((),)))


if __name__ == "__main__":
    unittest.main()
