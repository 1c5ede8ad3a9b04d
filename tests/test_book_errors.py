import unittest
from itertools import combinations
from random import Random

from silentslips.books import Book
from silentslips.errors import Ambiguous, BadBook, SlipError, Unused, Unwritable
from silentslips.forms import Form
from silentslips.machines import machine_of
from silentslips.patterns import nothing, one
from tests.told import build
from tests.told_books import any_book, sizes, used

X, K = one("x", "item"), one("k", "item")


def fault(forms, words=("x",), signs=(",",)):
    """The name and the fields of the error of a book with these forms, or None."""
    try:
        Book.of(list(forms), list(words), list(signs))
    except BadBook as error:
        return "BadBook", error.what, error.worth
    except Ambiguous as error:
        return "Ambiguous", error.form, error.row
    except (Unwritable, Unused) as error:
        return type(error).__name__, error.kind
    return None


def round_form(**kinds):
    return Form("round", "(", ")", **kinds)


def square_form(**kinds):
    return Form("square", "[", "]", **kinds)


class Whole(unittest.TestCase):
    def test_no_form(self):
        self.assertEqual(fault([]), ("BadBook", "whole", 0))
        self.assertEqual(fault(()), ("BadBook", "whole", 0))
        self.assertEqual(fault([], words=["%"]), ("BadBook", "whole", 0))

    def test_the_first_form_is_another_one(self):
        form, whole = round_form(k=X), Form.whole(doc=X | K)
        for forms in ([form], [form, whole], [form, form], [Form("whole", "", "", doc=X)]):
            self.assertEqual(fault(forms), ("BadBook", "whole", 0))
        with self.assertRaises(BadBook) as caught:
            Book(form, whole, words=["x"], signs=[])
        self.assertEqual((caught.exception.what, caught.exception.worth), ("whole", 0))

    def test_a_second_whole_form(self):
        whole, other = Form.whole(doc=X | K), Form.whole(d=X)
        self.assertEqual(fault([whole, other]), ("BadBook", "whole", 1))
        self.assertEqual(fault([whole, whole]), ("BadBook", "whole", 1))
        self.assertEqual(fault([whole, round_form(k=X), other]), ("BadBook", "whole", 2))
        self.assertEqual(fault([whole, round_form(k=X), other, other]), ("BadBook", "whole", 2))
        with self.assertRaises(SlipError) as caught:
            Book(whole, round_form(k=X), other, words=["x"], signs=[])
        self.assertEqual(caught.exception.worth, 2)


class Forms(unittest.TestCase):
    def test_two_forms_of_one_name(self):
        whole = Form.whole(doc=X | K)
        first, second = round_form(k=X), Form("round", "[", "]", m=X)
        self.assertEqual(fault([whole, first, second]), ("BadBook", "form", "round"))
        others = [Form(name, "<", ">", k=X) for name in ("b", "a", "a", "b")]
        self.assertEqual(fault([whole, *others]), ("BadBook", "form", "a"))

    def test_brackets_called_whole(self):
        forms = [Form.whole(doc=X | K), Form("whole", "(", ")", k=X)]
        self.assertEqual(fault(forms), ("BadBook", "form", "whole"))


class Tokens(unittest.TestCase):
    BAD = ["", "abcde", "%", "a%", "a b", " ", "\n", "\t", "x\n", "\x7f", "\u00e9", "\x1f", "aaaa "]

    def test_no_tokens(self):
        for bad in self.BAD:
            whole = Form.whole(doc=X | K)
            for words, signs, sides in (
                (["x", bad], [","], "()"), (["x"], [",", bad], "()"), (["x"], [","], (bad, ")")),
                (["x"], [","], ("(", bad)),
            ):
                form = Form("round", sides[0], sides[1], k=X)
                self.assertEqual(fault([whole, form], words, signs), ("BadBook", "token", bad))

    def test_good_tokens(self):
        for good in ("!", "~", "abcd", "!!!!", "~~~~", "\\", "\"", "{}", "0", "k0"):
            forms = [Form.whole(doc=X | K), round_form(k=X)]
            self.assertIsNone(fault(forms, ["x", good]))
            self.assertIsNone(fault(forms, ["x"], [good]))

    def test_a_token_twice(self):
        whole = Form.whole(doc=X | K)
        for words, signs, sides, wanted in (
            (["x", "x"], [], "()", "x"), (["x"], [",", ","], "()", ","), (["x"], [",", "x"], "()", "x"),
            (["x"], [","], "((", "("), (["x"], [","], "x)", "x"), (["x"], [","], "(x", "x"), (["x"], [","], ",)", ","),
            (["x", "a", "b", "b", "a"], [], "()", "b"), (["x", ","], [","], "))", ","),
        ):
            form = Form("round", sides[0], sides[1], k=X)
            self.assertEqual(fault([whole, form], words, signs), ("BadBook", "token", wanted))
        for opener, closer, wanted in (("(", "]", "("), ("[", ")", ")"), (")", "(", ")"), ("[", "[", "[")):
            forms = [Form.whole(doc=X | K | one("m")), round_form(k=X), Form("other", opener, closer, m=X)]
            self.assertEqual(fault(forms), ("BadBook", "token", wanted))

    def test_the_first_one_in_the_order_of_the_tokens(self):
        forms = [Form.whole(doc=X | K), Form("a", "", "", k=X), Form("b", "%", "x", m=X)]
        self.assertEqual(fault(forms, ["x", " "], ["too long"]), ("BadBook", "token", " "))
        self.assertEqual(fault(forms, ["x"], [",", "too long", ","]), ("BadBook", "token", "too long"))
        self.assertEqual(fault(forms, ["x"], [",", ",", "too long"]), ("BadBook", "token", ","))
        self.assertEqual(fault(forms, ["x"], [","]), ("BadBook", "token", ""))
        self.assertEqual(fault([forms[0], forms[2]], ["x"], [","]), ("BadBook", "token", "%"))
        form = Form("b", ")", "%", k=X)
        self.assertEqual(fault([forms[0], form], ["x"], [",", ")"]), ("BadBook", "token", ")"))


class Kinds(unittest.TestCase):
    def test_a_form_without_kinds(self):
        self.assertEqual(fault([Form.whole()]), ("BadBook", "empty", "whole"))
        self.assertEqual(fault([Form.whole(), round_form()]), ("BadBook", "empty", "whole"))
        forms = [Form.whole(doc=X), round_form(), square_form()]
        self.assertEqual(fault(forms), ("BadBook", "empty", "round"))
        self.assertEqual(fault(forms[::2]), ("BadBook", "empty", "square"))

    def test_no_names(self):
        for bad in ("", "abcdefghi", "A", "aB", "a b", "k1", "_", "k_", "%", "\u00e9", "(", "a\n", "`", "{"):
            forms = [Form.whole_of([(bad, X)])]
            self.assertEqual(fault(forms), ("BadBook", "kind", bad))
            forms = [Form.whole(doc=X | K), Form.of("round", "(", ")", [("k", X), (bad, X + X)])]
            self.assertEqual(fault(forms), ("BadBook", "kind", bad))

    def test_tokens_of_the_book(self):
        for words, signs, sides in ((["x", "kk"], [], "()"), (["x"], ["kk"], "()"), (["x"], [], ["kk", ")"]),
                                    (["x"], [], ["(", "kk"])):
            brackets = Form("round", sides[0], sides[1], k=X)
            forms = [Form.whole(doc=X | K, kk=X + X), brackets]
            self.assertEqual(fault(forms, words, signs), ("BadBook", "kind", "kk"))
            forms = [Form.whole(doc=X | K), Form("round", sides[0], sides[1], k=X, kk=X + X)]
            self.assertEqual(fault(forms, words, signs), ("BadBook", "kind", "kk"))

    def test_twice(self):
        for forms, wanted in (
            ([Form.whole(doc=X, k=X + X), round_form(m=X, k=X)], "k"),
            ([Form.whole(doc=X), round_form(m=X, k=X + X), square_form(a=X, m=X, b=nothing())], "m"),
            ([Form.whole(doc=X), round_form(doc=X)], "doc"),
        ):
            self.assertEqual(fault(forms), ("BadBook", "kind", wanted))

    def test_the_first_one(self):
        forms = [Form.whole(doc=X), Form.of("round", "(", ")", [("z", X), ("x", X), ("", X)]), square_form(doc=X)]
        self.assertEqual(fault(forms), ("BadBook", "kind", "x"))
        forms = [Form.whole(doc=X), Form.of("round", "(", ")", [("z", X), ("B", X), ("A", X)]), square_form(z=X)]
        self.assertEqual(fault(forms), ("BadBook", "kind", "B"))
        self.assertEqual(fault([forms[0], Form("f", "<", ">", z=X), forms[2]]), ("BadBook", "kind", "z"))

    def test_a_form_called_like_a_kind_is_none_of_these(self):
        self.assertIsNone(fault([Form.whole(doc=X | K), Form("k", "(", ")", k=X)]))
        self.assertIsNone(fault([Form.whole(doc=X | K), Form("x", "(", ")", k=X)]))


class Symbols(unittest.TestCase):
    def test_what_is_not_allowed(self):
        for bad in ("(", ")", "doc", "round", "z", "", "y", "K", "whole", "%", "a b", "abcdefghij"):
            forms = [Form.whole(doc=X | K | one(bad)), round_form(k=X)]
            self.assertEqual(fault(forms), ("BadBook", "symbol", bad))
            forms = [Form.whole(doc=X | K), round_form(k=-(X + one(bad)))]
            self.assertEqual(fault(forms), ("BadBook", "symbol", bad))

    def test_the_first_one(self):
        z, y, a = one("z"), one("y"), one("a")
        self.assertEqual(fault([Form.whole(doc=z + y, d=a), round_form(k=one("!"))])[2], "y")
        self.assertEqual(fault([Form.whole(doc=X, d=z + y), round_form(k=a)])[2], "y")
        self.assertEqual(fault([Form.whole(doc=X), round_form(k=X, m=z | y), square_form(n=a)])[2], "y")
        self.assertEqual(fault([Form.whole(doc=X), round_form(k=X), square_form(n=z, o=a)])[2], "z")

    def test_what_stands_in_no_row_does_not_count(self):
        self.assertIsNone(fault([Form.whole(doc=X | K + one("z") * 0 | K), round_form(k=X)]))


class Readings(unittest.TestCase):
    def test_the_form_and_the_row(self):
        a, b = one("x", "a"), one("x", "b")
        self.assertEqual(fault([Form.whole(doc=a | b)]), ("Ambiguous", "whole", ("x",)))
        forms = [Form.whole(doc=X | K), round_form(k=X + (a | b)), square_form(m=a | b)]
        self.assertEqual(fault(forms), ("Ambiguous", "round", ("x", "x")))
        forms = [Form.whole(doc=X | K), round_form(k=X), square_form(m=X + (a | b))]
        self.assertEqual(fault(forms), ("Ambiguous", "square", ("x", "x")))
        forms = [Form.whole(doc=X | K), round_form(k=-X, m=-one(","))]
        self.assertEqual(fault(forms), ("Ambiguous", "round", ()))

    def test_the_order_of_the_symbols(self):
        free = one("x", "a") | one("x", "b") | one("y", "a") | one("y", "b") | one(",", "a") | one(",", "b")
        free = free | one("k", "a") | one("k", "b")
        forms = [Form.whole(doc=free), Form("f", "(", ")", k=nothing(), a=nothing())]
        self.assertEqual(fault(forms, ["x", "y"], [","])[2], ("x",))
        self.assertEqual(fault(forms, ["y", "x"], [","])[2], ("y",))
        self.assertEqual(fault(forms, ["y"], [",", "x"])[2], ("y",))
        self.assertEqual(fault(forms, [], [",", "x", "y"])[2], (",",))
        free = one("m", "a") | one("m", "b") | one("k", "a") | one("k", "b")
        forms = [Form.whole(doc=free), round_form(m=X), square_form(k=X)]
        self.assertEqual(fault(forms), ("Ambiguous", "whole", ("m",)))
        self.assertEqual(fault([forms[0], *forms[:0:-1]]), ("Ambiguous", "whole", ("k",)))

    def test_kinds_that_look_alike_outside(self):
        forms = [Form.whole(doc=K, d=one("m")), round_form(k=X, m=X)]
        self.assertEqual(fault(forms), ("Ambiguous", "round", ("x",)))
        forms = [Form.whole(doc=K, d=one("m")), round_form(k=X), square_form(m=X)]
        self.assertIsNone(fault(forms))


class Groups(unittest.TestCase):
    """Kinds without short groups, and kinds that no text has."""

    def test_forty_and_forty_one_tokens(self):
        x = one("x")
        ten = Form("ten", "<", ">", ten=x * 8)
        for more, wanted in ((8, None), (9, ("Unwritable", "k"))):
            # Three groups of ten tokens, and the brackets around them.
            forms = [Form.whole(doc=one("k") | x), round_form(k=one("ten") * 3 + x * more), ten]
            self.assertEqual(fault(forms), wanted)
            forms = [Form.whole(doc=one("ten") * 3 + x * (more - 3) + x * 5)]
            self.assertEqual(fault([*forms, ten]), wanted and ("Unwritable", "doc"))
        forms = [Form.whole(doc=x * 9 * 4 + x * 4)]
        self.assertIsNone(fault(forms))
        forms = [Form.whole(doc=x * 9 * 4 + x * 5)]
        self.assertEqual(fault(forms), ("Unwritable", "doc"))
        forms = [Form.whole(doc=-K), round_form(k=x * 9 * 4 + x * 2)]
        self.assertIsNone(fault(forms))
        self.assertEqual(len(Book.of(forms, ["x"], []).least("k").split()), 40)
        for more in (3, 4):
            forms = [Form.whole(doc=-K), round_form(k=x * 9 * 4 + x * more)]
            self.assertEqual(fault(forms), ("Unwritable", "k"))

    def test_one_short_group_is_enough(self):
        x = one("x")
        forms = [Form.whole(doc=-K), round_form(k=x * 9 * 5 | x * 9 * 4 + x)]
        self.assertIsNone(fault(forms))
        forms = [Form.whole(doc=-K), round_form(k=one("k") * 3 | one("m") * 3), square_form(m=one("k") | x)]
        self.assertIsNone(fault(forms))

    def test_kinds_that_need_one_another(self):
        forms = [Form.whole(doc=X), round_form(k=one("m")), square_form(m=one("k"))]
        self.assertEqual(fault(forms), ("Unwritable", "k"))
        self.assertEqual(fault([forms[0], forms[2], forms[1]]), ("Unwritable", "m"))
        self.assertEqual(fault([Form.whole(doc=X | K), *forms[1:]]), ("Unwritable", "k"))
        self.assertEqual(fault([Form.whole(doc=K), *forms[1:]]), ("Unwritable", "doc"))
        self.assertEqual(fault([Form.whole(d=X, doc=K), *forms[1:]]), ("Unwritable", "doc"))
        self.assertEqual(fault([Form.whole(doc=K), round_form(k=+K)]), ("Unwritable", "doc"))
        self.assertIsNone(fault([Form.whole(doc=K), round_form(k=~K)]))
        forms = [Form.whole(doc=X | K), round_form(k=one("m")), square_form(m=-one("k"))]
        self.assertIsNone(fault(forms))

    def test_what_needs_a_long_group_is_too_long(self):
        x = one("x")
        forms = [Form.whole(doc=-one("m")), round_form(k=x * 9 * 4 + x * 2), square_form(m=one("k"))]
        self.assertEqual(fault(forms), ("Unwritable", "m"))
        forms = [Form.whole(doc=-one("k") | one("m")), round_form(k=x * 9 * 4 + x * 3), square_form(m=one("k"))]
        self.assertEqual(fault(forms), ("Unwritable", "k"))
        forms = [Form.whole(d=one("k") + x, doc=-one("k")), round_form(k=x * 9 * 4 + x * 2)]
        self.assertEqual(fault(forms), ("Unwritable", "d"))

    def test_unused_kinds(self):
        self.assertEqual(fault([Form.whole(doc=X), round_form(k=X)]), ("Unused", "k"))
        self.assertEqual(fault([Form.whole(doc=X), round_form(k=X | one("k"))]), ("Unused", "k"))
        forms = [Form.whole(doc=X | one("n")), round_form(k=-one("m"), n=X), square_form(m=-one("k"))]
        self.assertEqual(fault(forms), ("Unused", "k"))
        self.assertEqual(fault([forms[0], forms[2], forms[1]]), ("Unused", "m"))
        forms = [Form.whole(doc=X | one("k")), round_form(k=-one("m"), n=X), square_form(m=-one("k"))]
        self.assertEqual(fault(forms), ("Unused", "n"))
        self.assertIsNone(fault([Form.whole(doc=X | one("k")), *forms[2:], round_form(k=-one("m"))]))

    def test_kinds_of_the_whole_form_are_not_unused(self):
        self.assertIsNone(fault([Form.whole(doc=X, d=X + X)]))

    def test_a_chain_of_kinds(self):
        kinds = ["a", "b", "c", "d", "e", "f", "g"]
        for last in (one("a"), nothing()):
            pairs = [(kind, -one(after)) for kind, after in zip(kinds, kinds[1:])] + [("g", last)]
            pairs = [(kind, one(",") * at + pattern) for at, (kind, pattern) in enumerate(pairs)]
            for start in range(7):
                forms = [Form.whole(doc=-one(kinds[start])), Form.of("f", "(", ")", pairs)]
                ring = last == one("a")
                self.assertEqual(fault(forms), None if start == 0 or ring else ("Unused", "a"))


class Order(unittest.TestCase):
    """Several faults at once: the one that the interface lists first is raised."""

    FAULTS = ["whole", "form", "token", "empty", "kind", "symbol", "ambiguous", "unwritable", "unused"]

    def parts(self, faults):
        words, signs = ["x"], [","]
        round_kinds = {"k": X}
        square_kinds = {"m": X + X}
        if "token" in faults:
            signs.append("toolong")
        if "kind" in faults:
            square_kinds["BAD"] = nothing()
        if "symbol" in faults:
            round_kinds["k"] = X | one("strange")
        if "ambiguous" in faults:
            square_kinds["m"] = one("x", "a") + X | one("x", "b") + X
        if "unwritable" in faults:
            round_kinds["never"] = X + one("never")
        if "unused" in faults:
            round_kinds["alone"] = nothing()
        forms = [Form.whole(doc=X | K | one("m") | (one("never") if "unwritable" in faults else X))]
        forms.append(Form.of("round", "(", ")", list(round_kinds.items())))
        forms.append(Form.of("round" if "form" in faults else "square", "[", "]", list(square_kinds.items())))
        if "empty" in faults:
            forms.append(Form("void", "<", ">"))
        if "whole" in faults:
            forms.append(Form.whole(more=X))
        return forms, words, signs

    def wanted(self, name, forms):
        return {
            "whole": ("BadBook", "whole", len(forms) - 1),
            "form": ("BadBook", "form", "round"),
            "token": ("BadBook", "token", "toolong"),
            "empty": ("BadBook", "empty", "void"),
            "kind": ("BadBook", "kind", "BAD"),
            "symbol": ("BadBook", "symbol", "strange"),
            "ambiguous": ("Ambiguous", "square", ("x",)),
            "unwritable": ("Unwritable", "never"),
            "unused": ("Unused", "alone"),
        }[name]

    def test_one_two_three_and_all_faults(self):
        self.assertIsNone(fault(*self.parts([])))
        for many in (1, 2, 3, 4, len(self.FAULTS)):
            for faults in combinations(self.FAULTS, many):
                with self.subTest(faults=faults):
                    parts = self.parts(faults)
                    self.assertEqual(fault(*parts), self.wanted(faults[0], parts[0]))

    def test_two_faults_of_one_part(self):
        whole = Form.whole(doc=X)
        # A kind that is a strange symbol, too; a kind without a group that no text has.
        self.assertEqual(fault([whole, round_form(K=one("K"))]), ("BadBook", "kind", "K"))
        self.assertEqual(fault([whole, round_form(k=X, m=+one("m"))]), ("Unwritable", "m"))
        self.assertEqual(fault([whole, round_form(a=X, k=+one("k"))]), ("Unwritable", "k"))
        self.assertEqual(fault([whole, Form("whole", "", "", k=X)]), ("BadBook", "form", "whole"))
        self.assertEqual(fault([whole, Form("round", "", "")]), ("BadBook", "token", ""))

    def test_nothing_is_left_of_a_book_that_failed(self):
        forms, words, signs = self.parts(["unused"])
        held = list(words), list(signs)
        self.assertIsNotNone(fault(forms, words, signs))
        self.assertEqual((words, signs), held)


class ManyBooks(unittest.TestCase):
    def check(self, told):
        """The error of a told book, held against its machines and the rows of its patterns."""
        symbols = [*told.words, *told.signs, *[kind for form in told.forms[1:] for kind, _ in form[3]]]
        wanted = None
        for name, _, _, pairs in told.forms:
            try:
                machine_of([(kind, build(pattern)) for kind, pattern in pairs], symbols, form=name)
            except Ambiguous as error:
                wanted = wanted or ("Ambiguous", error.form, error.row)
        if wanted is None:
            size = sizes(told, 6)
            without = [kind for kind in told.patterns if kind not in size]
            alone = [kind for kind in told.patterns if without == [] and kind not in used(told, 6)]
            wanted = ([("Unwritable", kind) for kind in without] + [("Unused", kind) for kind in alone] + [None])[0]
        try:
            told.book()
        except (Ambiguous, Unwritable, Unused) as error:
            fields = (error.form, error.row) if isinstance(error, Ambiguous) else (error.kind,)
            self.assertEqual((type(error).__name__, *fields), wanted)
        else:
            self.assertIsNone(wanted)
        return wanted[0] if wanted else "good"

    def test_many_books(self):
        random = Random(15)
        found = []
        for _ in range(800):
            told = any_book(random, 4)
            with self.subTest(forms=told.forms):
                found.append(self.check(told))
        for name in ("Ambiguous", "Unwritable", "Unused", "good"):
            self.assertGreater(found.count(name), 40, name)


if __name__ == "__main__":
    unittest.main()
