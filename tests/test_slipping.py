import unittest
from random import Random

from silentslips.books import Book
from silentslips.errors import NoPlace, Refused
from silentslips.forms import Form
from silentslips.patterns import one
from silentslips.rules import Out, Slips, Swapped, Taken, Twice, rule_of
from silentslips.slipping import fate, origins, spots_at
from tests.told_books import all_rules, example, good_books, slipped

EXAMPLE = example().book()


def fates(book, text, rules):
    return {(rule, place): fate(book, text, rule_of(rule), place) for rule, place in rules}


class Example(unittest.TestCase):
    def test_out_of_a_comma(self):
        for text, place, spots, wanted in (
            ("[ x , x ]", 2, (("list", "between"),), "refused"),
            ("[ x , ]", 2, (("list", "between"),), "same"),
            ("[ s , s ]", 2, (("list", "between"),), "other"),
            ("( x , x )", 2, (("round", "between"),), "refused"),
            ("( x , x , )", 4, (("round", "between"),), "same"),
            ("( x , )", 2, (("round", "between"),), "other"),
        ):
            self.assertEqual(fate(EXAMPLE, text, Out(","), place), wanted)
            self.assertEqual(spots_at(EXAMPLE, text, Out(","), place), spots)
            self.assertEqual(fate(place=place, rule=Out(","), text=text, book=EXAMPLE), wanted)
            self.assertEqual(spots_at(place=place, rule=Out(","), text=text, book=EXAMPLE), spots)


class Fates(unittest.TestCase):
    """All three fates for each kind of rule."""

    def check(self, book, cases):
        for text, rule, place, wanted in cases:
            self.assertEqual(fate(book, text, rule_of(rule), place), wanted, (text, rule, place))

    def test_out(self):
        self.check(EXAMPLE, [
            ("x", "out x", 0, "refused"), ("[ s s ]", "out s", 1, "other"), ("[ s s ]", "out s", 2, "other"),
            ("[ x ]", "out x", 1, "other"), ("( x )", "out (", 0, "refused"), ("[ x , ]", "out ,", 2, "same"),
        ])

    def test_twice(self):
        x = one("x", "item")
        book = Book(Form.whole(doc=~(x | one(",") | one(";") + x)), words=["x"], signs=[",", ";"])
        self.check(book, [
            ("x", "twice x", 0, "other"), ("x ,", "twice ,", 1, "same"), ("; x", "twice ;", 0, "refused"),
            (", x ,", "twice ,", 2, "same"),
        ])
        self.check(EXAMPLE, [("[ ]", "twice [", 0, "refused"), ("( x )", "twice )", 2, "refused")])

    def test_swapped(self):
        x, y = one("x", "item"), one("y", "item")
        book = Book(Form.whole(doc=~(x | y | one(",") | one(";") + x)), words=["x", "y"], signs=[",", ";"])
        self.check(book, [
            ("x y", "swapped x y", 0, "other"), ("x , y", "swapped x ,", 0, "same"),
            ("; x ,", "swapped ; x", 0, "refused"), (", ; x", "swapped , ;", 0, "refused"),
            ("; x , y", "swapped x ,", 1, "refused"),
        ])
        self.check(EXAMPLE, [
            ("[ s , s s ]", "swapped , s", 2, "other"), ("[ s s , s ]", "swapped s ,", 2, "other"),
            ("[ [ ] , ]", "swapped ] ,", 2, "refused"), ("( x )", "swapped ( x", 0, "refused"),
            ("[ [ x ] , x ]", "swapped ] ,", 3, "refused"),
        ])

    def test_swapped_with_a_bracket(self):
        x = one("x", "item")
        free = ~(x | one(",") | one("k", "item"))
        book = Book(Form.whole(doc=free), Form("f", "(", ")", k=free), words=["x"], signs=[","])
        self.check(book, [
            ("x ( )", "swapped x (", 0, "other"), (", ( x )", "swapped , (", 0, "same"),
            ("( x ) ,", "swapped ) ,", 2, "same"), ("( ) ( )", "swapped ) (", 1, "other"),
            ("( )", "swapped ( )", 0, "refused"), ("( ( ) )", "swapped ( )", 1, "other"),
        ])

    def test_taken(self):
        x, y = one("x", "item"), one("y", "item")
        book = Book(Form.whole(doc=~(x | y | one(",") | one("!") | one(";") + x)), words=["x", "y"],
                    signs=[",", ";", "!"])
        self.check(book, [
            ("x ,", "taken , !", 1, "same"), ("x ,", "taken , ;", 1, "refused"), ("x", "taken x y", 0, "other"),
            ("; x", "taken x y", 1, "refused"), ("x ,", "taken , x", 1, "other"), ("x", "taken x z", 0, "refused"),
            ("x", "taken x abcd", 0, "refused"), (", ,", "taken , !", 0, "same"),
        ])

    def test_texts_with_other_blanks(self):
        self.assertEqual(fate(EXAMPLE, "\n[ x\n, ] ", Out(","), 2), "same")
        self.assertEqual(spots_at(EXAMPLE, "\n[ x\n, ] ", Out(","), 2), (("list", "between"),))

    def test_long_and_deep_texts(self):
        text = "[ " + "x , " * 199 + "]"
        self.assertEqual(fate(EXAMPLE, text, Out(","), 398), "same")
        self.assertEqual(fate(EXAMPLE, text, Out(","), 396), "refused")
        self.assertEqual(fate(EXAMPLE, text, Taken("x", "s"), 1), "other")
        text = "( " * 150 + "x ," + " )" * 150
        self.assertEqual(fate(EXAMPLE, text, Out(","), 151), "other")
        self.assertEqual(spots_at(EXAMPLE, text, Swapped("x", ","), 150), (("round", "item"), ("round", "between")))


class Spots(unittest.TestCase):
    def test_of_each_kind_of_token(self):
        text = "( ( x ) , [ s s ] )"
        for rule, place, wanted in (
            (Out("("), 0, (("round", "open"),)), (Twice("("), 1, (("round", "open"),)),
            (Taken("x", "s"), 2, (("round", "item"),)), (Out(")"), 3, (("round", "close"),)),
            (Swapped(")", ","), 3, (("round", "close"), ("round", "between"))),
            (Swapped(",", "["), 4, (("round", "between"), ("list", "open"))),
            (Swapped("[", "s"), 5, (("list", "open"), ("list", "new"))), (Out("s"), 6, (("list", "new"),)),
            (Taken("s", "z"), 7, (("list", "joined"),)), (Swapped("]", ")"), 8, (("list", "close"), ("round", "close"))),
        ):
            found = spots_at(EXAMPLE, text, rule, place)
            self.assertEqual(found, wanted)
            self.assertIs(type(found), tuple)

    def test_of_the_whole_row(self):
        book = Book(Form.whole(doc=one("a", "left") + one("b", "right")), words=["a"], signs=["b"])
        self.assertEqual(spots_at(book, "a b", Swapped("a", "b"), 0), (("whole", "left"), ("whole", "right")))


class Errors(unittest.TestCase):
    def check(self, text, rule, place, error, fields):
        for call in (fate, spots_at):
            with self.assertRaises(error) as caught:
                call(EXAMPLE, text, rule, place)
            self.assertEqual({name: getattr(caught.exception, name) for name in fields}, fields)

    def test_no_text_of_the_book(self):
        self.check("( x x", Out("x"), 1, Refused, {"at": 2, "line": 1, "awaited": (",", ")")})
        self.check("\n(\nx", Out("x"), 1, Refused, {"at": 2, "line": 3, "awaited": (",", ")")})
        self.check("", Out("x"), 0, Refused, {"at": 0, "line": 1, "awaited": ("x", "(", "[")})
        self.check("( x\t)", Out("x"), 0, Refused, {"at": 1, "line": 1, "awaited": ("x", "(", "[")})

    def test_no_place(self):
        for rule, place in ((Out("x"), 0), (Out("x"), -2), (Out("x"), 3), (Out("y"), 1), (Swapped(")", "("), 2),
                            (Swapped("x", ","), 1), (Taken("x", "s"), 10 ** 29), (Twice("("), -3)):
            self.check("( x )", rule, place, NoPlace, {"place": place})

    def test_refused_comes_first(self):
        self.check("( x x", Out("s"), 99, Refused, {"at": 2, "line": 1, "awaited": (",", ")")})


class ManyBooks(unittest.TestCase):
    """Slips of all texts of many small books, by all rules at all places."""

    def check_slips(self, told, book, random):
        texts = told.texts(5)
        rules = all_rules([*told.tokens, "?"])
        found = {"refused": 0, "same": 0, "other": 0}
        for text, (tokens, meaning, spots, _) in texts.items():
            if len(tokens) > 4:
                continue
            for rule in random.sample(rules, min(len(rules), 20)):
                for place in range(len(tokens)):
                    changed = slipped(rule, tokens, place)
                    if changed is None:
                        continue
                    after = texts.get(" ".join(changed))
                    wanted = "refused" if after is None else "same" if after[1] == meaning else "other"
                    self.assertEqual(fate(book, text, rule_of(" ".join(rule)), place), wanted)
                    wide = 2 if rule[0] == "swapped" else 1
                    self.assertEqual(spots_at(book, text, rule_of(" ".join(rule)), place), spots[place:place + wide])
                    found[wanted] += 1
        return found

    def test_fates_and_spots(self):
        random = Random(23)
        totals = {"refused": 0, "same": 0, "other": 0}
        for told, book in good_books(random, 120, 6):
            with self.subTest(forms=told.forms):
                for name, many in self.check_slips(told, book, random).items():
                    totals[name] += many
        for name, many in totals.items():
            self.assertGreater(many, 100, name)

    def check_origins(self, told, book, random):
        """All rules at all places of all texts that are one slip away."""
        texts = [told_text[0] for told_text in told.texts(5).values()]
        rules = all_rules([*told.tokens, "?"])
        rules = random.sample(rules, min(len(rules), 30))
        led = {}
        for rule in rules:
            for tokens in texts:
                for place in range(len(tokens)):
                    changed = slipped(rule, tokens, place)
                    if changed is not None and len(changed) <= 4:
                        led.setdefault(changed, []).append((" ".join(tokens), " ".join(rule), place))
        slips = Slips.of([rule_of(" ".join(rule)) for rule in rules])
        order = {" ".join(rule): at for at, rule in enumerate(all_rules([*told.tokens, "?"]))}
        others = [tokens for tokens in texts if len(tokens) <= 4] + [(), ("?",), ("(",)]
        for tokens in [*led, *others]:
            wanted = sorted(led.get(tokens, []), key=lambda told: (order[told[1]], told[2]))
            self.assertEqual(origins(book, " ".join(tokens), slips), wanted)
        return sum(len(found) for found in led.values())

    def test_origins(self):
        random = Random(24)
        total = 0
        for told, book in good_books(random, 60, 6):
            with self.subTest(forms=told.forms):
                total += self.check_origins(told, book, random)
        self.assertGreater(total, 3000)


class Origins(unittest.TestCase):
    def test_each_place_is_one(self):
        x = one("x", "item")
        book = Book(Form.whole(doc=~x), words=["x"], signs=[])
        self.assertEqual(origins(book, "x x", Slips(Out("x"), Twice("x"))), [
            ("x x x", "out x", 0), ("x x x", "out x", 1), ("x x x", "out x", 2), ("x", "twice x", 0),
        ])
        self.assertEqual(origins(book, "x x x", Slips(Twice("x"))), [("x x", "twice x", 0), ("x x", "twice x", 1)])
        self.assertEqual(origins(book, "", Slips(Out("x"), Twice("x"))), [("x", "out x", 0)])

    def test_the_text_need_be_none_of_the_book(self):
        slips = Slips(Out(","), Twice("("), Taken(",", "?"), Swapped(")", "]"), Taken("s", "zz"))
        self.assertEqual(origins(EXAMPLE, "[ x x ]", slips), [("[ x , x ]", "out ,", 2)])
        self.assertEqual(origins(book=EXAMPLE, text=" ( (\nx )", slips=slips), [
            ("( x )", "twice (", 0),
        ])
        self.assertEqual(origins(EXAMPLE, "[ x ? ]", slips), [("[ x , ]", "taken , ?", 2)])
        self.assertEqual(origins(EXAMPLE, "[ ( x ] )", slips), [("[ ( x ) ]", "swapped ) ]", 3)])
        self.assertEqual(origins(EXAMPLE, "[ zz s ]", slips), [("[ s s ]", "taken s zz", 1)])
        self.assertEqual(origins(EXAMPLE, "[ zz zz ]", slips), [])
        self.assertEqual(origins(EXAMPLE, "toolong % [", slips), [])

    def test_the_order_of_the_rules_and_then_of_the_places(self):
        slips = Slips(Taken("x", "s"), Taken(",", "s"), Out("s"), Out(","), Twice("s"), Swapped(",", "s"))
        self.assertEqual(origins(EXAMPLE, "[ s s ]", slips), [
            ("[ s , s ]", "out ,", 2), ("[ s s , ]", "out ,", 3),
            ("[ s s s ]", "out s", 1), ("[ s s s ]", "out s", 2), ("[ s s s ]", "out s", 3),
            ("[ s ]", "twice s", 1), ("[ s , ]", "taken , s", 2),
        ])

    def test_no_rules(self):
        self.assertEqual(origins(EXAMPLE, "x", Slips()), [])

    def test_a_new_list(self):
        slips = Slips(Out(","))
        told = origins(EXAMPLE, "[ x ]", slips)
        self.assertIs(type(told), list)
        told.clear()
        self.assertEqual(origins(EXAMPLE, "[ x ]", slips), [("[ x , ]", "out ,", 2)])

    def test_a_long_text_and_every_rule(self):
        text = "[ " + "x , " * 199 + "]"
        found = origins(EXAMPLE, text, Slips.every(EXAMPLE))
        self.assertEqual(len(found), 201)
        for origin, rule, place in found[::20]:
            self.assertIn(origin, EXAMPLE)
            self.assertEqual(rule_of(rule)(origin, place), text)


class Interface(unittest.TestCase):
    def test_defined_in_the_file_itself(self):
        for thing in (fate, spots_at, origins):
            self.assertEqual(thing.__module__, "silentslips.slipping")


if __name__ == "__main__":
    unittest.main()
