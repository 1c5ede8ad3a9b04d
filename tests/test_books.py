import unittest
from itertools import product
from random import Random

from silentslips.books import Book
from silentslips.errors import Unknown
from silentslips.forms import Form
from silentslips.machines import machine_of
from silentslips.patterns import nothing, one
from tests.told_books import example, good_books, sizes

X, K, COMMA = one("x", "item"), one("k", "item"), one(",", "between")


def small_book():
    return Book(Form.whole(doc=X | K), Form("round", "(", ")", k=(X | K) // COMMA), words=["x"], signs=[","])


class Orders(unittest.TestCase):
    def setUp(self):
        every = one("z") | one("a") | one(";") | one("!") | one("m") | one("b") | one("c")
        self.forms = [
            Form.whole(y=every + one("a"), d=every + one("z")),
            Form("two", "]", "[", m=nothing(), b=one("a")),
            Form("one", ">", "<", c=nothing()),
        ]
        self.book = Book(*self.forms, words=["z", "a"], signs=[";", "!"])

    def test_orders(self):
        for book in (self.book, Book.of(self.forms, ["z", "a"], [";", "!"])):
            self.assertEqual(book.words, ("z", "a"))
            self.assertEqual(book.signs, (";", "!"))
            self.assertEqual(book.tokens, ("z", "a", ";", "!", "]", "[", ">", "<"))
            self.assertEqual(book.symbols, ("z", "a", ";", "!", "m", "b", "c"))
            self.assertEqual(book.kinds, ("y", "d", "m", "b", "c"))
            self.assertEqual(book.forms, ("whole", "two", "one"))
            for told in (book.words, book.signs, book.tokens, book.symbols, book.kinds, book.forms):
                self.assertIs(type(told), tuple)

    def test_forms_and_patterns(self):
        for name, form in zip(("whole", "two", "one"), self.forms):
            self.assertEqual(self.book.form_named(name).kinds, form.kinds)
            self.assertEqual(self.book.form_named(name=name).closer, form.closer)
            for kind in form.kinds:
                self.assertEqual(self.book.form_of(kind), name)
                self.assertEqual(self.book.form_of(kind=kind), name)
                self.assertTrue(self.book[kind] == form[kind])

    def test_machines(self):
        for form in self.forms:
            pairs = [(kind, form[kind]) for kind in form.kinds]
            wanted = machine_of(pairs, ["z", "a", ";", "!", "m", "b", "c"])
            for machine in (self.book.machine(form.name), self.book.machine(name=form.name)):
                self.assertEqual((machine.steps, machine.ends), (wanted.steps, wanted.ends))
                self.assertEqual(machine.reach(0), list(form.kinds))

    def test_the_order_of_the_words_changes_the_machine(self):
        whole = Form.whole(d=one("a") + one("b") | one("b") + one("a"))
        steps = [Book(whole, words=words, signs=[]).machine("whole").steps for words in (["a", "b"], ["b", "a"])]
        self.assertEqual([[step[1] for step in told] for told in steps], [["a", "b", "b", "a"], ["b", "a", "a", "b"]])

    def test_unknown_names(self):
        calls = {
            self.book.form_named: ["", "y", "m", "z", "Two", "two ", "three", "]", "words", "a b"],
            self.book.machine: ["", "y", "m", "z", "Two", "]", "machine", "\n"],
            self.book.form_of: ["", "whole", "two", "z", ";", "]", "M", "kinds", "{x}"],
            self.book.least: ["", "whole", "two", "z", ";", "]", "M", "least"],
            lambda kind: self.book[kind]: ["", "whole", "two", "z", ";", "]", "M", "kind"],
        }
        for call, names in calls.items():
            for name in names:
                with self.subTest(name=name), self.assertRaises(Unknown) as caught:
                    call(name)
                self.assertEqual(caught.exception.name, name)

    def test_limit(self):
        self.assertEqual((Book.LIMIT, self.book.LIMIT), (40, 40))

    def test_no_iteration(self):
        for way in (iter, list, tuple, sorted, lambda told: [*told], lambda told: [part for part in told]):
            with self.assertRaises(TypeError):
                way(self.book)

    def test_equal_to_nothing_of_another_class(self):
        for other in (None, 8, True, "", self.book.tokens, self.book.kinds, self.forms[0]):
            self.assertFalse(self.book == other)


class Arguments(unittest.TestCase):
    def test_by_name_and_by_position(self):
        whole, form = Form.whole(doc=X | K), Form("round", "(", ")", k=-X)
        books = [
            Book(whole, form, words=["x"], signs=[]),
            Book(whole, form, signs=[], words=["x"]),
            Book.of([whole, form], ["x"], []),
            Book.of(words=["x"], signs=[], forms=[whole, form]),
            Book.of((whole, form), ("x",), signs=()),
        ]
        for book in books:
            self.assertIs(type(book), Book)
            self.assertEqual((book.tokens, book.kinds, book.least("k")), (("x", "(", ")"), ("doc", "k"), "( )"))
        book = Book(whole=Form.whole(doc=X), words=["x"], signs=[])
        self.assertEqual(list(book.texts(3)), ["x"])
        for wrong in (lambda: Book(whole, form, ["x"], []), lambda: Book(whole, form, words=["x"])):
            with self.assertRaises(Exception):
                wrong()

    def test_lists_that_are_changed_later(self):
        forms = [Form.whole(doc=X | K | one(",")), Form("round", "(", ")", k=-X)]
        words, signs = ["x"], [","]
        for book in (Book.of(forms, words, signs), Book(*forms, words=words, signs=signs)):
            held = list(forms), list(words), list(signs)
            self.assertEqual(list(book.texts(3)), ["x", ",", "( )", "( x )"])
            words.append("y")
            signs.clear()
            forms.reverse()
            self.assertEqual((book.words, book.signs, book.forms), (("x",), (",",), ("whole", "round")))
            self.assertEqual(list(book.texts(3)), ["x", ",", "( )", "( x )"])
            forms[:], words[:], signs[:] = held

    def test_arguments_stay_as_they_are(self):
        forms, words, signs = [Form.whole(doc=X | COMMA)], ["x"], [","]
        Book.of(forms, words, signs)
        self.assertEqual(([form.kinds for form in forms], words, signs), ([("doc",)], ["x"], [","]))

    def test_without_words_signs_or_brackets(self):
        book = Book(Form.whole(doc=nothing()), words=[], signs=[])
        self.assertEqual((book.tokens, book.symbols, book.kinds, book.forms), ((), (), ("doc",), ("whole",)))
        self.assertEqual((list(book.texts(8)), book.least("doc"), "" in book, "x" in book), ([""], "", True, False))
        book = Book(Form.whole(doc=~COMMA), words=[], signs=[","])
        self.assertEqual(list(book.texts(2)), ["", ",", ", ,"])
        book = Book(Form.whole(doc=one("k")), Form("f", "<", ">", k=~one("k")), words=[], signs=[])
        self.assertEqual(list(book.texts(4)), ["< >", "< < > >"])
        book = Book(Form.whole(doc=~X), words=["x"], signs=[])
        self.assertEqual(list(book.texts(2)), ["", "x", "x x"])

    def test_names_of_methods_and_parameters(self):
        names = ["whole", "forms", "words", "signs", "self", "cls", "least", "texts", "machine", "kinds"]
        for kind in names:
            for role in ("open", "close", "self", "step"):
                for form in [name for name in names if name != "whole"]:
                    whole = Form.whole_of([("doc", one(kind, role) | one("x", role))])
                    book = Book(whole, Form.of(form, "(", ")", [(kind, -one("x", role))]), words=["x"], signs=[])
                    self.assertEqual(list(book.texts(3)), ["x", "( )", "( x )"])
                    self.assertEqual((book.form_of(kind), book.least(kind)), (form, "( )"))
                    self.assertTrue(book[kind] == -one("x", role))
        book = Book(Form.whole(whole=X), words=["x"], signs=[])
        self.assertEqual((book.kinds, book.form_of("whole")), (("whole",), "whole"))

    def test_tokens_of_all_lengths_and_signs(self):
        tokens = ["!", "~~~~", "\"'\\`", "{0}", "$&", "doc"]
        whole = Form.whole(d=one("!") | one("~~~~") | one("\"'\\`") | one("{0}"))
        book = Book(whole, words=tokens[:3], signs=tokens[3:])
        self.assertEqual(list(book.texts(1)), tokens[:4])

    def test_names_of_all_lengths(self):
        book = Book(Form.whole(abcdefgh=X, z=X + X), words=["x"], signs=[])
        self.assertEqual(book.kinds, ("abcdefgh", "z"))


class Texts(unittest.TestCase):
    """Texts, what is in a book, and what is least, held against the rows of the patterns."""

    def check(self, told, book, most):
        wanted = told.texts(most)
        for length in range(most + 1):
            short = [text for text in wanted if len(text.split()) <= length]
            self.assertEqual(list(book.texts(length)), short)
        for length in range(5):
            for tokens in product([*told.tokens, "k"], repeat=length):
                text = " ".join(tokens)
                self.assertIs(text in book, text in wanted)
        size = sizes(told, 6)
        for kind in told.patterns:
            self.assertEqual(len(book.least(kind).split()), size[kind])
            if size[kind] <= 8:
                self.assertEqual(book.least(kind), told.least(kind, 8))

    def test_many_books(self):
        for told, book in good_books(Random(13), 150, 5):
            with self.subTest(forms=told.forms):
                self.check(told, book, 5)

    def test_large_books(self):
        for told, book in good_books(Random(14), 15, 8):
            with self.subTest(forms=told.forms):
                wanted = list(told.texts(6))
                self.assertEqual(list(book.texts(6)), wanted)
                for text in wanted:
                    self.assertIn(text, book)

    def test_all_lengths(self):
        told = example()
        book = told.book()
        for most in range(9):
            self.assertEqual(list(book.texts(most)), list(told.texts(most)))
            self.assertEqual(list(book.texts(most=most)), list(told.texts(most)))
        self.assertEqual(len(told.texts(8)), 378)

    def test_many_texts(self):
        book = Book(Form.whole(doc=~(X | K)), Form("f", "(", ")", k=~(X | K)), words=["x"], signs=[])
        texts = list(book.texts(8))
        self.assertEqual(len(texts), len(set(texts)))
        # With one word and one pair of brackets these are the numbers of Motzkin.
        by_length = [len([text for text in texts if len(text.split()) == length]) for length in range(9)]
        self.assertEqual(by_length, [1, 1, 2, 4, 9, 21, 51, 127, 323])

    def test_few_texts_among_many_beginnings(self):
        words = ["a", "b", "c", "d"]
        any_word = one("a") | one("b") | one("c") | one("d")
        book = Book(Form.whole(doc=one("a") | any_word * 9), words=words, signs=[])
        self.assertEqual(list(book.texts(8)), ["a"])

    def test_what_is_no_text(self):
        book = small_book()
        for thing in (None, True, 0, 1, [], ["x"], ("x",), (), [["x"]], book, b"x"):
            self.assertIs(thing in book, False)
        for text in ("", "x x", "xx", "k", "( k )", "( x", "x )", ")", "( )", "(x)", "x\tx", "x\t", "\tx", "\t", "x\r\n",
                     "x\v", "x\u00a0", "x y", "%", "x %", "( x % x )", "xxxxx", "( xxxxx )", "( x , )", "doc", "round"):
            self.assertIs(text in book, False, text)

    def test_blanks_and_line_feeds(self):
        book = small_book()
        for text in ("x", " x", "x ", "  x  ", "\nx", "x\n", "\n \n x \n\n", "(\nx\n,\nx\n)", " (  x  ,  ( x ) )\n"):
            self.assertIs(text in book, True, text)
        self.assertNotIn("\n", book)
        self.assertNotIn("( x ,\n\n)", book)
        empty = Book(Form.whole(doc=-X), words=["x"], signs=[])
        for text in ("", " ", "\n", " \n \n"):
            self.assertIn(text, empty)
        for text in ("\t", " \t", "\r\n"):
            self.assertNotIn(text, empty)

    def test_tokens_that_read_like_kinds(self):
        book = Book(Form.whole(doc=one("k") + one("kk")), Form("f", "(", ")", k=X), Form("g", "[", "]", kk=-X),
                    words=["x"], signs=[])
        self.assertEqual(list(book.texts(7)), ["( x ) [ ]", "( x ) [ x ]"])
        for text in ("k kk", "( x ) kk", "k [ ]", "( k ) [ ]", "doc", "f g"):
            self.assertNotIn(text, book)

    def test_a_group_counts_only_with_a_kind_that_may_stand_there(self):
        forms = [Form.whole(doc=one("k")), Form("f", "(", ")", k=X + -one("m"), m=X + X)]
        book = Book(*forms, words=["x"], signs=[])
        self.assertEqual(list(book.texts(8)), ["( x )", "( x ( x x ) )"])
        for text in ("( x x )", "( x ( x ) )", "( ( x x ) )"):
            self.assertNotIn(text, book)

    def test_deep_and_long_texts(self):
        book = small_book()
        self.assertIn("( " * 150 + "x" + " )" * 150, book)
        self.assertNotIn("( " * 150 + "x" + " )" * 149, book)
        self.assertNotIn("( " * 150 + "x" + " )" * 151, book)
        self.assertIn("( " + "x , " * 200 + "x )", book)
        self.assertNotIn("( " + "x , " * 200 + ")", book)


class Least(unittest.TestCase):
    def test_groups_in_groups(self):
        forms = [
            Form.whole(doc=one("inner") + one("outer")),
            Form("f", "(", ")", outer=one("inner") + one("inner") | X * 9, mid=X + one("outer") * 2),
            Form("g", "[", "]", inner=X | one("mid")),
        ]
        book = Book(*forms, words=["x"], signs=[])
        self.assertEqual([book.least(kind) for kind in book.kinds], [
            "[ x ] ( [ x ] [ x ] )", "( [ x ] [ x ] )", "( x ( [ x ] [ x ] ) ( [ x ] [ x ] ) )", "[ x ]",
        ])
        self.assertEqual(book.least(kind="inner"), "[ x ]")

    def test_of_equal_length_the_order_of_the_tokens_counts(self):
        for words, signs, wanted in (
            (["a", "b"], [","], "a ( b )"), (["b", "a"], [","], "b ( b )"), (["a"], [",", "b"], "a ( , )"),
        ):
            free = one("a") | one("b")
            forms = [Form.whole(doc=free + one("k")), Form("f", "(", ")", k=one("b") | one(","), n=one("k"))]
            forms[0] = Form.whole(doc=free + (one("k") | one("n") + free))
            book = Book(*forms, words=words, signs=signs)
            self.assertEqual((book.least("doc"), book.least("k")), (wanted, wanted[2:]))

    def test_openers_come_in_the_order_of_the_forms(self):
        either = one("k") | one("m")
        first, second = Form("f", "(", ")", k=nothing()), Form("g", "[", "]", m=nothing())
        self.assertEqual(Book(Form.whole(doc=either), first, second, words=[], signs=[]).least("doc"), "( )")
        self.assertEqual(Book(Form.whole(doc=either), second, first, words=[], signs=[]).least("doc"), "[ ]")

    def test_a_shorter_row_by_longer_symbols(self):
        forms = [Form.whole(doc=one("k") | X * 3), Form("f", "(", ")", k=nothing() | X)]
        self.assertEqual(Book(*forms, words=["x"], signs=[]).least("doc"), "( )")
        forms = [Form.whole(doc=one("k") | X * 3), Form("f", "(", ")", k=X + X)]
        self.assertEqual(Book(*forms, words=["x"], signs=[]).least("doc"), "x x x")

    def test_states_that_lead_back_to_earlier_ones(self):
        a, b, c, d, e = one("a"), one("b"), one("c"), one("d"), one(";") + one("!")
        behind_b, behind_c = one(",") + e, one(".") + one(",") + e
        whole = Form.whole(doc=a + e | b + behind_b | c + behind_c | d + one(":") + behind_c)
        book = Book(whole, words=["a", "b", "c", "d"], signs=[",", ".", ":", ";", "!"])
        texts = ["a ; !", "b , ; !", "c . , ; !", "d : . , ; !"]
        self.assertEqual(list(book.texts(8)), texts)
        for text in texts:
            self.assertIn(text, book)
        self.assertEqual(book.least("doc"), "a ; !")

    def test_how_many_tokens_are_missing(self):
        # The texts of at most so many tokens are found without a look at longer ones.
        for told, book in good_books(Random(16), 60, 5):
            fewest = {}
            for tokens, _, _, _ in told.texts(7).values():
                for length in range(len(tokens) + 1):
                    more = len(tokens) - length
                    fewest[tokens[:length]] = min(more, fewest.get(tokens[:length], more))
            for tokens, more in fewest.items():
                row = book.ways.through(book.ways.start(), tokens)
                self.assertEqual(book.ways.missing(row), more, (told.forms, tokens))

    def test_the_empty_row(self):
        book = Book(Form.whole(doc=~X, one=X * 0 + COMMA), words=["x"], signs=[","])
        self.assertEqual((book.least("doc"), book.least("one")), ("", ","))


class Interface(unittest.TestCase):
    def test_defined_in_the_class_itself(self):
        for name in ("__init__", "of", "form_named", "form_of", "__getitem__", "machine", "least", "__contains__",
                     "texts", "LIMIT"):
            self.assertIn(name, vars(Book))
        self.assertIsInstance(vars(Book)["of"], classmethod)
        self.assertEqual(Book.__module__, "silentslips.books")

    def test_a_told_generator_is_new(self):
        book = small_book()
        first, second = book.texts(5), book.texts(5)
        self.assertEqual((next(first), next(first), next(second)), ("x", "( x )", "x"))


if __name__ == "__main__":
    unittest.main()
