import unittest
from random import Random

from silentslips.books import Book
from silentslips.crossings import gained, joined, shed, split
from silentslips.forms import Form
from silentslips.patterns import nothing, one
from tests.told_books import example, good_books
from tests.told_slips import ToldRows

EXAMPLE = example().book()
SHORT = 9


class AgainstAllRows(unittest.TestCase):
    """All short rows of the forms of many small books."""

    def check(self, found, wanted):
        self.assertIs(type(found), list)
        self.assertEqual(found, sorted(wanted))

    def check_form(self, book, told, form):
        roles = {role for told_roles in told.roles.values() for role in told_roles} | {"never"}
        for token in book.words + book.signs:
            for back in (False, True):
                self.check(gained(book, form, token, back=back), told.gained(form, token, back, SHORT))
                for role in roles:
                    self.check(shed(book, form, token, role, back=back), told.shed(form, token, role, back))
        self.check(joined(book, form), told.joined(form, SHORT))
        self.check(split(book, form), told.split(form))
        return told.kind(form, ()) != ""

    def test_many_books(self):
        met = {True: 0, False: 0}
        for told, book in good_books(Random(31), 250, 5):
            rows = ToldRows(told, SHORT)
            for form in book.forms[1:]:
                with self.subTest(forms=told.forms, form=form):
                    met[self.check_form(book, rows, form)] += 1
        self.assertGreater(min(met.values()), 40)

    def test_the_example(self):
        rows = ToldRows(example(), 7)
        for form in ("round", "list"):
            self.check_form(EXAMPLE, rows, form)


def book_with(words=("x", "y"), signs=(",", ";"), **kinds):
    """A book with one form with brackets that has these kinds."""
    item = nothing()
    for kind in kinds:
        item = item | one(kind, "item")
    for token in (*words, *signs):
        item = item | one(token)
    return Book(Form.whole(doc=~item), Form("f", "(", ")", **kinds), words=words, signs=signs)


X, Y, COMMA, SEMI = one("x", "item"), one("y", "item"), one(",", "between"), one(";", "end")


class Gained(unittest.TestCase):
    def test_a_sign(self):
        book = book_with(k=X // COMMA, m=COMMA + X)
        # A sign in front of x makes the other kind, a sign behind it none.
        self.assertEqual(gained(book, "f", ","), [("k", "", False), ("k", "m", False), ("m", "", False)])
        self.assertEqual(gained(book, "f", ",", back=True), [("k", "", False), ("m", "", False)])

    def test_the_same_kind(self):
        book = book_with(k=(X // COMMA) << SEMI)
        self.assertEqual(gained(book, "f", ";", back=True), [("k", "", False), ("k", "k", True)])
        self.assertEqual(gained(book, "f", ";"), [("k", "", False)])

    def test_the_roles_of_the_words_count(self):
        book = book_with(k=one("x", "free") | SEMI + one("x", "bound"), m=one("x", "free") + one("y"))
        self.assertEqual(gained(book, "f", ";"), [("k", "", False), ("k", "k", False), ("m", "", False)])

    def test_the_roles_of_signs_do_not_count(self):
        comma = one(",", "first") + one("x") + one(",", "last") | one("x") + one(",", "first")
        book = book_with(k=comma)
        self.assertEqual(gained(book, "f", ","), [("k", "", False), ("k", "k", True)])

    def test_a_word(self):
        book = book_with(k=~X, m=(+X) + Y)
        self.assertEqual(gained(book, "f", "x"), [("k", "k", False), ("m", "m", False)])
        self.assertEqual(gained(book, "f", "y", back=True), [("k", "", False), ("k", "m", False), ("m", "", False)])

    def test_groups_in_the_row(self):
        group = one("k", "item")
        book = book_with(k=-COMMA + (X | group), m=COMMA + Y)
        self.assertEqual(gained(book, "f", ","), [("k", "", False), ("k", "k", True), ("m", "", False)])

    def test_a_token_that_the_form_does_not_have(self):
        book = book_with(k=~X)
        for token in ("y", ";"):
            for back in (False, True):
                self.assertEqual(gained(book, "f", token, back=back), [("k", "", False)])


class Shed(unittest.TestCase):
    def test_a_sign(self):
        book = book_with(k=-COMMA + X, m=COMMA + Y | COMMA)
        self.assertEqual(shed(book, "f", ",", "between"), [("k", "k", True), ("m", "", False)])
        self.assertEqual(shed(book, "f", ",", "between", back=True), [("m", "", False)])
        self.assertEqual(shed(book, "f", ",", "between", back=False), shed(book, "f", ",", "between"))

    def test_roles_tell_apart(self):
        book = book_with(k=(one(",", "ahead") | nothing()) + X + -(one(",", "end") + -one(",", "last")))
        for role, front, back in (("ahead", [("k", "k", True)], []), ("end", [], [("k", "k", True)]),
                                  ("last", [], [("k", "k", True)]), ("item", [], []), ("", [], []), ("x", [], [])):
            self.assertEqual(shed(book, "f", ",", role), front)
            self.assertEqual(shed(book, "f", ",", role, back=True), back)

    def test_only_what_stands_at_the_edge_leaves(self):
        book = book_with(k=X + COMMA + X)
        self.assertEqual(shed(book, "f", ",", "between"), [])
        self.assertEqual(shed(book, "f", ",", "between", back=True), [])
        self.assertEqual(shed(book, "f", "x", "item"), [("k", "", False)])

    def test_a_word_that_leaves_the_same_kind(self):
        book = book_with(k=~X)
        for back in (False, True):
            self.assertEqual(shed(book, "f", "x", "item", back=back), [("k", "k", False)])
            self.assertEqual(shed(book, "f", "y", "item", back=back), [])

    def test_the_roles_of_what_stays(self):
        book = book_with(k=SEMI + one("x", "bound") | one("x", "free") | COMMA + one("x", "free"))
        self.assertEqual(shed(book, "f", ";", "end"), [("k", "k", False)])
        self.assertEqual(shed(book, "f", ",", "between"), [("k", "k", True)])

    def test_the_empty_row_is_left(self):
        self.assertEqual(shed(book_with(k=-COMMA), "f", ",", "between"), [("k", "k", True)])
        self.assertEqual(shed(book_with(k=COMMA, m=nothing()), "f", ",", "between"), [("k", "m", False)])
        self.assertEqual(shed(book_with(k=COMMA), "f", ",", "between", back=True), [("k", "", False)])


class Joined(unittest.TestCase):
    def test_without_an_empty_row(self):
        book = book_with(k=X, m=Y + -one("k", "item"))
        kinds = ("k", "m")
        self.assertEqual(joined(book, "f"), [(one_kind, other, "") for one_kind in kinds for other in kinds])
        self.assertEqual(split(book, "f"), [])

    def test_with_an_empty_row(self):
        group = one("e", "item")
        book = book_with(e=nothing(), k=X + (-group) + -X, m=Y)
        self.assertEqual(joined(book, "f"), [
            ("e", "e", ""), ("e", "k", ""), ("e", "m", ""), ("k", "e", ""), ("k", "e", "k"), ("k", "k", ""),
            ("k", "k", "k"), ("k", "m", ""), ("m", "e", ""), ("m", "k", ""), ("m", "m", ""),
        ])

    def test_only_a_group_of_the_empty_kind_counts(self):
        group = one("k", "item")
        book = book_with(e=nothing(), k=X + ~group)
        self.assertEqual(joined(book, "f"), [(v, w, "") for v in "ek" for w in "ek"])
        self.assertEqual(split(book, "f"), [])


class Split(unittest.TestCase):
    def test_of_rows(self):
        group = one("e", "item")
        book = book_with(e=nothing(), k=X + group + X, m=Y + +group)
        self.assertEqual(split(book, "f"), [("k", "", ""), ("m", "", ""), ("m", "", "e"), ("m", "m", ""),
                                            ("m", "m", "e")])

    def test_the_kind_itself(self):
        book = book_with(k=~(X | one("k", "item")))
        self.assertEqual(split(book, "f"), [("k", "k", "k")])
        self.assertEqual(joined(book, "f"), [("k", "k", "k")])


class Interface(unittest.TestCase):
    def test_by_name(self):
        self.assertEqual(gained(token=",", form="round", book=EXAMPLE, back=True),
                         gained(EXAMPLE, "round", ",", back=True))
        self.assertEqual(shed(role="between", token=",", form="round", book=EXAMPLE),
                         shed(EXAMPLE, "round", ",", "between"))
        self.assertEqual(joined(form="list", book=EXAMPLE), joined(EXAMPLE, "list"))
        self.assertEqual(split(form="list", book=EXAMPLE), split(EXAMPLE, "list"))

    def test_back_by_name_only(self):
        with self.assertRaises(TypeError):
            gained(EXAMPLE, "round", ",", True)
        with self.assertRaises(TypeError):
            shed(EXAMPLE, "round", ",", "between", True)

    def test_new_lists(self):
        for call in (lambda: gained(EXAMPLE, "list", ","), lambda: gained(EXAMPLE, "list", ",", back=True),
                     lambda: shed(EXAMPLE, "list", ",", "between", back=True), lambda: joined(EXAMPLE, "list"),
                     lambda: split(EXAMPLE, "list")):
            told = call()
            wanted = list(told)
            self.assertIs(type(told), list)
            told.append("more")
            self.assertEqual(call(), wanted)

    def test_truth_values(self):
        for told in gained(EXAMPLE, "list", ",", back=True) + shed(EXAMPLE, "list", ",", "between", back=True):
            self.assertIs(type(told), tuple)
            self.assertIs(type(told[2]), bool)

    def test_defined_in_the_file_itself(self):
        for thing in (gained, shed, joined, split):
            self.assertEqual(thing.__module__, "silentslips.crossings")


if __name__ == "__main__":
    unittest.main()
