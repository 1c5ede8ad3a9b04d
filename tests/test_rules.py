import unittest
from itertools import combinations, permutations, product
from random import Random

from silentslips.books import Book
from silentslips.errors import BadRule, NoPlace
from silentslips.forms import Form
from silentslips.patterns import one
from silentslips.rules import Out, Rule, Slips, Swapped, Taken, Twice, rule_of, slipped_at
from tests.told_books import all_rules, example, slipped

MAKERS = {"out": Out, "twice": Twice, "swapped": Swapped, "taken": Taken}
BAD_TOKENS = ["", "abcde", "%", "a%", " ", "a b", "\n", "a\n", "\t", "\x7f", "\u00e9"]


def made(told):
    """The rule of a tuple of its word and its tokens."""
    return MAKERS[told[0]](*told[1:])


def places(rule, text):
    return list(rule.places(text))


class Making(unittest.TestCase):
    def check_bad(self, call, worth):
        with self.assertRaises(BadRule) as caught:
            call()
        self.assertEqual(caught.exception.worth, worth)

    def test_what_they_have(self):
        for told in all_rules(["a", "b", "(", "~~~~", "!"]):
            rule = made(told)
            self.assertIsInstance(rule, Rule)
            self.assertEqual((rule.word, rule.tokens, str(rule)), (told[0], told[1:], " ".join(told)))
            self.assertIs(type(rule.tokens), tuple)
            self.assertEqual(MAKERS[told[0]].word, told[0])

    def test_by_name(self):
        self.assertEqual(str(Out(token="a")), "out a")
        self.assertEqual(str(Twice(token="a")), "twice a")
        self.assertEqual(str(Swapped(second="b", first="a")), "swapped a b")
        self.assertEqual(str(Taken("a", second="b")), "taken a b")

    def test_no_tokens(self):
        for bad in BAD_TOKENS:
            self.check_bad(lambda: Out(bad), bad)
            self.check_bad(lambda: Twice(bad), bad)
            for maker in (Swapped, Taken):
                self.check_bad(lambda: maker(bad, "a"), bad)
                self.check_bad(lambda: maker("a", bad), bad)
                for other in BAD_TOKENS:
                    self.check_bad(lambda: maker(bad, other), bad)

    def test_equal_tokens(self):
        for maker in (Swapped, Taken):
            for token in ("a", "~~~~", "("):
                self.check_bad(lambda: maker(token, token), token)
            self.check_bad(lambda: maker(first="a", second="a"), "a")

    def test_equality(self):
        rules = all_rules(["a", "b", "c"])
        for first in rules:
            for second in rules:
                self.assertIs(made(first) == made(second), first == second)
                self.assertIs(made(first) != made(second), first != second)
        for other in (None, True, 0, "out a", ("a",), ("out", "a"), ["out", "a"], Slips(Out("a"))):
            self.assertIs(Out("a") == other, False)
            self.assertIs(Out("a") != other, True)

    def test_only_four_classes_directly_under_rule(self):
        self.assertEqual(Rule.__subclasses__(), [Out, Twice, Swapped, Taken])
        for maker in MAKERS.values():
            self.assertEqual(maker.__bases__, (Rule,))


class RuleOf(unittest.TestCase):
    def test_back_again(self):
        for told in all_rules(["a", "b", "(", "~~~~", "out", "{0}"]):
            rule = rule_of(" ".join(told))
            self.assertIs(type(rule), MAKERS[told[0]])
            self.assertTrue(rule == made(told))
        self.assertEqual(str(rule_of(text="out out")), "out out")

    def test_almost(self):
        for text in ("", " ", "out", "out ", "out  a", " out a", "out a ", "out a b", "out a\n", "out\na", "out\ta",
                     "Out a", "outa", "ou a", "out %", "out abcde", "twice", "twice a a", "twice a b", "twice  ",
                     "swapped", "swapped a", "swapped a ", "swapped a a", "swapped a b c", "swapped a  b",
                     "swapped a b ", "swapped a\nb", "swapped\na b", "swapped a %", "swapped % %", "swapped  a b",
                     "taken", "taken a", "taken a a", "taken a b a", "taken abcde a", "taken a abcde", "taken a b\n",
                     "\ntaken a b", "taken (a) b c", "rule a", "rule", "a", "a b", "out a\u00a0", "out\u00a0a"):
            with self.assertRaises(BadRule) as caught:
                rule_of(text)
            self.assertEqual(caught.exception.worth, text)


class Places(unittest.TestCase):
    def test_the_same_token_several_times(self):
        text = "a a b a b b a"
        self.assertEqual(places(Out("a"), text), [0, 1, 3, 6])
        self.assertEqual(places(Twice("b"), text), [2, 4, 5])
        self.assertEqual(places(Taken("a", "z"), text), [0, 1, 3, 6])
        self.assertEqual(places(Swapped("a", "b"), text), [1, 3])
        self.assertEqual(places(Swapped("b", "a"), text), [2, 5])

    def test_any_text(self):
        self.assertEqual(list(Out("a").places(text=" \n a\n\na aa %% a\ta toolong a ")), [0, 1, 6])
        self.assertEqual(places(Swapped("a", "b"), "a\nb  a   b ba"), [0, 2])
        for rule in map(made, all_rules(["a", "b"])):
            for text in ("", " \n", "c", "aa", "toolong %", "ab ba a\tb"):
                self.assertEqual(places(rule, text), [])

    def test_tokens_of_rules_are_not_symbols_of_patterns(self):
        self.assertEqual(places(Out("."), "a . b"), [1])
        self.assertEqual(places(Out("*"), "a . b"), [])


class Calls(unittest.TestCase):
    def test_each_word(self):
        text = "a b a"
        self.assertEqual(Out("a")(text, 2), "a b")
        self.assertEqual(Twice("a")(text, 0), "a a b a")
        self.assertEqual(Swapped("a", "b")(text, 0), "b a a")
        self.assertEqual(Swapped("b", "a")(text, 1), "a a b")
        self.assertEqual(Taken("b", "z")(text, 1), "a z a")
        self.assertEqual(Out("a")(text="a", place=0), "")

    def test_single_blanks(self):
        self.assertEqual(Out("b")(" a\n\n b  c\n", 1), "a c")
        self.assertEqual(Taken("b", "a")("  b\n%%%  toolong ", 0), "a %%% toolong")

    def test_all_places_of_random_texts(self):
        random = Random(21)
        tokens = ["a", "b", "c", "toolong", "%"]
        for _ in range(120):
            row = tuple(random.choice(tokens) for _ in range(random.randint(0, 7)))
            text = random.choice([" ", "\n", " \n "]).join(row)
            for told in all_rules(["a", "b", "z"]):
                rule = made(told)
                wanted = {place: slipped(told, row, place) for place in range(-8, 9)}
                self.assertEqual(places(rule, text), [place for place, found in wanted.items() if found is not None])
                for place, found in wanted.items():
                    if found is not None:
                        self.assertEqual(rule(text, place), " ".join(found))
                        continue
                    with self.assertRaises(NoPlace) as caught:
                        rule(text, place)
                    self.assertEqual(caught.exception.place, place)

    def test_far_places(self):
        for rule in map(made, all_rules(["a", "b"])):
            for text in ("", "a b a b", "b"):
                for place in (-1, -2, -3, -4, -(10 ** 29), 4, 5, 10 ** 29):
                    with self.assertRaises(NoPlace) as caught:
                        rule(text, place)
                    self.assertEqual(caught.exception.place, place)


class KeepsWords(unittest.TestCase):
    def setUp(self):
        free = one("x") | one("y") | one(",") | one(";") | one("k")
        self.book = Book(Form.whole(doc=~free), Form("f", "(", ")", k=~free), words=["x", "y"], signs=[",", ";"])

    def test_each_kind_of_token(self):
        signs, words = [",", ";"], ["x", "y"]
        for told in all_rules(["x", "y", ",", ";", "(", ")", "?", "k"]):
            tokens = told[1:]
            plain = all(token in words + signs for token in tokens)
            number = len([token for token in tokens if token in words])
            wanted = plain and (number < 2 if told[0] == "swapped" else number == 0)
            self.assertIs(made(told).keeps_words(self.book), wanted, told)
            self.assertIs(made(told).keeps_words(book=self.book), wanted)

    def test_some_of_them(self):
        for text, wanted in (
            ("out ,", True), ("out x", False), ("out (", False), ("out ?", False), ("twice ;", True),
            ("twice y", False), ("twice )", False), ("taken , ;", True), ("taken , x", False), ("taken x ,", False),
            ("taken x y", False), ("taken , ?", False), ("taken ? ,", False), ("taken , (", False),
            ("swapped , ;", True), ("swapped , x", True), ("swapped x ,", True), ("swapped x y", False),
            ("swapped ( ,", False), ("swapped , )", False), ("swapped , ?", False), ("swapped x ?", False),
        ):
            self.assertIs(rule_of(text).keeps_words(self.book), wanted, text)


class Sets(unittest.TestCase):
    RULES = ["taken b a", "out b", "swapped a b", "twice a", "out a", "taken a c", "swapped B a", "taken a b", "out B"]
    ORDER = ["out B", "out a", "out b", "twice a", "swapped B a", "swapped a b", "taken a b", "taken a c", "taken b a"]

    def of(self, texts):
        return Slips(*[rule_of(text) for text in texts])

    def texts(self, slips):
        self.assertIs(type(slips), Slips)
        self.assertIs(type(slips.rules), tuple)
        return [str(rule) for rule in slips.rules]

    def test_order(self):
        self.assertEqual(self.texts(self.of(self.RULES)), self.ORDER)
        self.assertEqual(self.texts(Slips.of([rule_of(text) for text in self.RULES])), self.ORDER)
        self.assertEqual(self.texts(Slips.of(rules=tuple(rule_of(text) for text in self.RULES))), self.ORDER)
        for order in list(permutations(self.RULES[:5]))[::7]:
            self.assertEqual(self.texts(self.of(order)), [text for text in self.ORDER if text in order])

    def test_the_order_of_strings(self):
        texts = [f"out {token}" for token in ("a", "aa", "ab", "b", "Z", "!", "~", "a!", "10", "9")]
        self.assertEqual(self.texts(self.of(texts)), sorted(texts))
        pairs = [("a", "b"), ("aa", "a"), ("a", "bb"), ("!", "z"), ("a", "!"), ("~", "!")]
        self.assertEqual([rule.tokens for rule in Slips.of([Taken(*pair) for pair in pairs]).rules], sorted(pairs))

    def test_equal_ones_count_once(self):
        slips = Slips(Out("a"), Twice("a"), Out("a"), rule_of("out a"))
        self.assertEqual((self.texts(slips), len(slips)), (["out a", "twice a"], 2))

    def test_length_and_truth(self):
        self.assertEqual((len(Slips()), bool(Slips()), Slips().rules), (0, False, ()))
        self.assertEqual((len(Slips.of([])), bool(Slips.of([]))), (0, False))
        self.assertEqual((len(Slips(Out("a"))), bool(Slips(Out("a")))), (1, True))
        self.assertIs(bool(Slips(Out("a"))), True)

    def test_a_changed_list_changes_nothing(self):
        rules = [Out("a")]
        slips = Slips.of(rules)
        rules.append(Out("b"))
        self.assertEqual(self.texts(slips), ["out a"])
        self.assertEqual([str(rule) for rule in rules], ["out a", "out b"])

    def test_signs_between_them(self):
        small = self.RULES[:4]
        sets = [texts for many in range(4) for texts in combinations(small, many)]
        for left in sets:
            for right in sets:
                one_set, other = self.of(left), self.of(right)
                inside = {
                    "&": set(left) & set(right), "|": set(left) | set(right),
                    "-": set(left) - set(right), "^": set(left) ^ set(right),
                }
                found = {"&": one_set & other, "|": one_set | other, "-": one_set - other, "^": one_set ^ other}
                for sign, wanted in inside.items():
                    self.assertEqual(self.texts(found[sign]), [text for text in self.ORDER if text in wanted])
                self.assertIs(one_set.within(other), set(left) <= set(right))
                self.assertIs(one_set.within(other=other), set(left) <= set(right))
                self.assertIs(one_set == other, left == right)
                self.assertIs(one_set != other, left != right)
                self.assertEqual((self.texts(one_set), self.texts(other)),
                                 ([text for text in self.ORDER if text in left],
                                  [text for text in self.ORDER if text in right]))

    def test_equality(self):
        self.assertTrue(Slips(Out("a"), Out("b")) == Slips(Out("b"), Out("a"), Out("b")))
        self.assertFalse(Slips(Out("a")) == Slips(Twice("a")))
        for other in (None, True, 1, "out a", ["out a"], (Out("a"),), [Out("a")], Out("a"), Slips(Out("a")).rules):
            self.assertIs(Slips(Out("a")) == other, False)

    def test_any_value_in_a_set(self):
        slips = self.of(self.RULES)
        for text in self.RULES:
            self.assertIs(rule_of(text) in slips, True)
        for thing in (Twice("b"), Out("c"), Swapped("b", "a"), Taken("c", "a"), "out a", ("out", "a"), ["out", "a"],
                      None, True, 0, (), [], [Out("a")], slips, example().book()):
            self.assertIs(thing in slips, False)

    def test_every(self):
        book = Book(Form.whole(doc=one("x") | one("k")), Form("f", "(", ")", k=~one(";")), words=["x"], signs=[";"])
        wanted = [" ".join(told) for told in all_rules(["x", ";", "(", ")"])]
        self.assertEqual(self.texts(Slips.every(book)), wanted)
        self.assertEqual(self.texts(Slips.every(book=book)), wanted)
        self.assertEqual(len(Slips.every(example().book())), 7 + 7 + 42 + 42)
        nothing_in_it = Book(Form.whole(doc=one("x") * 0), words=[], signs=[])
        self.assertEqual(len(Slips.every(nothing_in_it)), 0)


class SlippedAt(unittest.TestCase):
    def steps(self, *told):
        return [(rule_of(text), place) for text, place in told]

    def check_bad(self, text, steps, place):
        with self.assertRaises(NoPlace) as caught:
            slipped_at(text, steps)
        self.assertEqual(caught.exception.place, place)

    def test_any_order(self):
        text = "a b a , b a"
        steps = self.steps(("out a", 0), ("swapped b a", 1), ("twice ,", 3), ("taken a z", 5))
        for order in permutations(steps):
            self.assertEqual(slipped_at(text, list(order)), "a b , , b z")
        self.assertEqual(slipped_at(text=text, steps=tuple(steps)), "a b , , b z")
        self.assertEqual(slipped_at(text, [list(step) for step in steps]), "a b , , b z")

    def test_one_and_none(self):
        self.assertEqual(slipped_at(" a\n b ", []), "a b")
        self.assertEqual(slipped_at("", []), "")
        self.assertEqual(slipped_at("a b", self.steps(("out a", 0), ("out b", 1))), "")

    def test_what_one_slip_writes_is_none_of_anothers_tokens(self):
        self.assertEqual(slipped_at("a b", self.steps(("taken a b", 0), ("taken b a", 1))), "b a")
        self.assertEqual(slipped_at("a b c", self.steps(("out b", 1), ("taken c b", 2))), "a b")
        self.check_bad("a b", self.steps(("taken a b", 0), ("out b", 0)), 0)
        self.check_bad("a b c", self.steps(("out b", 1), ("swapped a c", 0)), 0)
        self.assertEqual(slipped_at("a b a b", self.steps(("swapped a b", 2), ("swapped a b", 0))), "b a b a")

    def test_shared_tokens(self):
        text = "a b a b"
        self.check_bad(text, self.steps(("swapped a b", 0), ("swapped b a", 1)), 1)
        self.check_bad(text, self.steps(("swapped b a", 1), ("swapped a b", 0)), 0)
        self.check_bad(text, self.steps(("swapped b a", 1), ("out a", 0), ("out a", 2)), 2)
        self.check_bad(text, self.steps(("out b", 1), ("swapped a b", 0)), 0)
        self.check_bad(text, self.steps(("out b", 1), ("swapped b a", 1)), 1)
        self.assertEqual(slipped_at(text, self.steps(("out b", 1), ("swapped a b", 2), ("out a", 0))), "b a")

    def test_the_same_step_twice(self):
        for text in ("out a", "twice a", "taken a b", "swapped a b"):
            self.check_bad("a b", self.steps((text, 0), (text, 0)), 0)

    def test_the_first_bad_step(self):
        text = "a b a b"
        self.check_bad(text, self.steps(("out a", 1), ("out a", 9)), 1)
        self.check_bad(text, self.steps(("out a", 9), ("out a", 1)), 9)
        self.check_bad(text, self.steps(("out a", 0), ("out b", 3), ("out b", 4), ("out a", 0)), 4)
        self.check_bad(text, self.steps(("out a", 0), ("swapped a b", 0), ("out b", 4)), 0)
        self.check_bad(text, self.steps(("out a", 2), ("swapped a b", 2), ("out b", 7)), 2)
        self.check_bad(text, self.steps(("swapped a b", 3),), 3)
        self.check_bad(text, self.steps(("out a", -4),), -4)
        self.check_bad(text, self.steps(("swapped b a", -1),), -1)
        self.check_bad("", self.steps(("out a", 0),), 0)
        self.check_bad(text, self.steps(("out b", 10 ** 29),), 10 ** 29)

    def test_a_bad_step_counts_for_no_step_behind_it(self):
        self.check_bad("a b", self.steps(("out b", 0), ("out a", 0)), 0)

    def test_arguments_stay_as_they_are(self):
        steps = self.steps(("out b", 1), ("out a", 0))
        held = list(steps)
        slipped_at("a b", steps)
        self.assertEqual([(str(rule), place) for rule, place in steps], [(str(rule), place) for rule, place in held])

    def test_random_steps(self):
        random = Random(22)
        rules = all_rules(["a", "b"])
        good = bad = 0
        for _ in range(5000):
            row = [random.choice("ab") for _ in range(random.randint(1, 6))]
            told = [(random.choice(rules), random.randint(-1, len(row))) for _ in range(random.randint(1, 3))]
            steps = [(made(rule), place) for rule, place in told]
            owned, wrong = [], None
            for rule, place in told:
                own = [place, place + 1] if rule[0] == "swapped" else [place]
                if wrong is None and (slipped(rule, tuple(row), place) is None or set(own) & set(owned)):
                    wrong = place
                owned += own
            if wrong is not None:
                self.check_bad(" ".join(row), steps, wrong)
                bad += 1
                continue
            # Slips that are done from the back to the front do not move the places of the others.
            wanted = tuple(row)
            for rule, place in sorted(told, key=lambda step: -step[1]):
                wanted = slipped(rule, wanted, place)
            self.assertEqual(slipped_at(" ".join(row), steps), " ".join(wanted))
            good += 1
        self.assertGreater(good, 300)
        self.assertGreater(bad, 300)


class Interface(unittest.TestCase):
    def test_defined_in_the_class_itself(self):
        for name in ("__init__", "word", "__str__", "__eq__", "places", "__call__", "keeps_words"):
            self.assertIn(name, vars(Rule))
        for maker in MAKERS.values():
            self.assertIn("__init__", vars(maker))
            self.assertIn("word", vars(maker))
        for name in ("__init__", "of", "every", "__and__", "__or__", "__sub__", "__xor__", "within", "__eq__",
                     "__contains__", "__len__", "__bool__"):
            self.assertIn(name, vars(Slips))
        for name in ("of", "every"):
            self.assertIsInstance(vars(Slips)[name], classmethod)
        for thing in (Rule, *MAKERS.values(), Slips, rule_of, slipped_at):
            self.assertEqual(thing.__module__, "silentslips.rules")

    def test_all_pairs_of_tokens(self):
        for first, second in product(["a", "b"], repeat=2):
            if first != second:
                self.assertEqual(Swapped(first, second)(f"{first} {second}", 0), f"{second} {first}")


if __name__ == "__main__":
    unittest.main()
