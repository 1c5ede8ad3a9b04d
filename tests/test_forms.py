import unittest

from silentslips.errors import Unknown
from silentslips.forms import Form
from silentslips.patterns import nothing, one

A, B, C = one("a"), one("b"), one("c")
CALLED_LIKE_PARAMETERS = ["cls", "self", "closer", "opener", "name", "pairs", "kinds", "form", "whole"]


class Making(unittest.TestCase):
    def check(self, form, told, pairs, is_whole):
        self.assertIs(type(form), Form)
        self.assertEqual((form.name, form.opener, form.closer), told)
        self.assertIs(form.is_whole, is_whole)
        self.assertIs(type(form.kinds), tuple)
        self.assertEqual(form.kinds, tuple(kind for kind, _ in pairs))
        self.assertEqual(len(form), len(pairs))
        for kind, pattern in pairs:
            self.assertEqual(form[kind], pattern)
            self.assertIn(kind, form)

    def test_four_ways(self):
        pairs = [("m", A), ("k", B), ("z", C)]
        self.check(Form("f", "<", ">", m=A, k=B, z=C), ("f", "<", ">"), pairs, False)
        self.check(Form.of("f", "<", ">", pairs), ("f", "<", ">"), pairs, False)
        self.check(Form.whole(m=A, k=B, z=C), ("whole", "", ""), pairs, True)
        self.check(Form.whole_of(pairs), ("whole", "", ""), pairs, True)

    def test_by_name(self):
        self.check(Form(closer=">", name="f", opener="<", m=A), ("f", "<", ">"), [("m", A)], False)
        self.check(Form.of(pairs=[("m", A)], closer=">", name="f", opener="<"), ("f", "<", ">"), [("m", A)], False)
        self.check(Form.whole_of(pairs=[("m", A)]), ("whole", "", ""), [("m", A)], True)

    def test_the_order_of_the_kinds(self):
        self.assertEqual(Form("f", "<", ">", z=A, a=B, m=C).kinds, ("z", "a", "m"))
        self.assertEqual(Form("f", "<", ">", m=A, z=B, a=C).kinds, ("m", "z", "a"))
        self.assertEqual(Form.whole(z=A, a=B, m=C).kinds, ("z", "a", "m"))
        self.assertEqual(Form.whole_of([("z", A), ("a", B)]).kinds, ("z", "a"))
        self.assertEqual(Form.of("f", "<", ">", [("z", A), ("a", B)]).kinds, ("z", "a"))

    def test_without_kinds(self):
        self.check(Form("f", "<", ">"), ("f", "<", ">"), [], False)
        self.check(Form.of("f", "<", ">", []), ("f", "<", ">"), [], False)
        self.check(Form.whole(), ("whole", "", ""), [], True)
        self.check(Form.whole_of([]), ("whole", "", ""), [], True)

    def test_kinds_called_like_parameters(self):
        pairs = [(kind, one(kind)) for kind in CALLED_LIKE_PARAMETERS]
        self.check(Form.of("f", "<", ">", pairs), ("f", "<", ">"), pairs, False)
        self.check(Form.whole_of(pairs), ("whole", "", ""), pairs, True)
        others = pairs[5:]
        self.check(Form("f", "<", ">", **dict(others)), ("f", "<", ">"), others, False)
        self.check(Form.whole(**dict(others)), ("whole", "", ""), others, True)

    def test_kinds_that_are_any_strings(self):
        pairs = [("", A), ("two words", B), ("\n", C), ("{x}", nothing()), ("whole", A)]
        self.check(Form.of("", "", "", pairs), ("", "", ""), pairs, False)
        self.check(Form.whole_of(pairs), ("whole", "", ""), pairs, True)

    def test_only_two_ways_lead_to_a_whole_form(self):
        self.assertFalse(Form("whole", "", "", k=A).is_whole)
        self.assertFalse(Form.of("whole", "", "", [("k", A)]).is_whole)
        self.assertFalse(Form("whole", "<", ">", k=A).is_whole)

    def test_lists_and_tuples(self):
        form = Form.of("f", "<", ">", (["k", A], ("m", B)))
        self.assertEqual(form.kinds, ("k", "m"))
        self.assertEqual(Form.whole_of((("k", A),)).kinds, ("k",))

    def test_a_changed_list_changes_nothing(self):
        for maker in (Form.whole_of, lambda pairs: Form.of("f", "<", ">", pairs)):
            pairs = [["k", A], ["m", B]]
            form = maker(pairs)
            pairs[0][0] = "z"
            pairs[1][1] = C
            pairs.append(["n", C])
            self.assertEqual((form.kinds, len(form), form["k"] == A, form["m"] == B), (("k", "m"), 2, True, True))
            self.assertNotIn("n", form)
            self.assertEqual(len(pairs), 3)

    def test_a_changed_dict_changes_nothing(self):
        kinds = {"k": A}
        forms = [Form("f", "<", ">", **kinds), Form.whole(**kinds)]
        kinds["k"] = B
        self.assertEqual([form["k"] == A for form in forms], [True, True])


class Telling(unittest.TestCase):
    def setUp(self):
        self.forms = [Form("f", "<", ">", k=A, m=+B), Form.whole(k=A, m=+B)]

    def test_a_kind_that_it_has_not(self):
        for form in self.forms:
            for kind in ("z", "", "f", "whole", "<", "K", "k ", "a", "kinds", "name"):
                with self.assertRaises(Unknown) as caught:
                    form[kind]
                self.assertEqual(caught.exception.name, kind)
                self.assertNotIn(kind, form)

    def test_the_pattern_of_a_kind(self):
        for form in self.forms:
            self.assertEqual((form["k"] == A, form["m"] == +B, form["m"] == B), (True, True, False))

    def test_any_value_in_a_form(self):
        for form in self.forms:
            self.assertIs("k" in form, True)
            for thing in (None, True, False, 0, 1, 10 ** 29, "", "z", [], ["k"], ("k",), (), [["k"]], A, form):
                self.assertIs(thing in form, False)

    def test_the_number_of_kinds(self):
        self.assertEqual([len(form) for form in self.forms], [2, 2])

    def test_no_iteration(self):
        for form in self.forms:
            for way in (iter, list, tuple, sorted, lambda told: [*told], lambda told: [kind for kind in told]):
                with self.assertRaises(TypeError):
                    way(form)

    def test_equal_to_nothing_of_another_class(self):
        for form in self.forms:
            for other in (None, 2, True, "f", "whole", form.kinds, {"k": A}):
                self.assertFalse(form == other)


class Interface(unittest.TestCase):
    def test_defined_in_the_class_itself(self):
        for name in ("__init__", "of", "whole", "whole_of", "is_whole", "__getitem__", "__contains__", "__len__"):
            self.assertIn(name, vars(Form))
        self.assertIsInstance(vars(Form)["is_whole"], property)
        for name in ("of", "whole", "whole_of"):
            self.assertIsInstance(vars(Form)[name], classmethod)


if __name__ == "__main__":
    unittest.main()
