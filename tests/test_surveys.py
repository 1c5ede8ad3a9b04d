import unittest
from random import Random

from silentslips.books import Book
from silentslips.errors import SlipError
from silentslips.forms import Form
from silentslips.patterns import nothing, one
from silentslips.reading import read
from silentslips.rules import Out, Slips, Swapped, Taken, Twice, rule_of
from silentslips.slipping import fate, spots_at
from silentslips.surveys import Survey, lookalikes, survey
from silentslips.tables import spots_of, table
from tests.told_books import all_rules, any_book, example, good_books
from tests.told_slips import all_slips, least_slips

EXAMPLE = example().book()
FATES = ("refused", "same", "other")
OUT_ROWS = (
    ("out ,", (("list", "between"),), "refused", "[ x , x ]", 2),
    ("out ,", (("list", "between"),), "same", "[ x , ]", 2),
    ("out ,", (("list", "between"),), "other", "[ s , s ]", 2),
    ("out ,", (("round", "between"),), "refused", "( x , x )", 2),
    ("out ,", (("round", "between"),), "same", "( x , x , )", 4),
    ("out ,", (("round", "between"),), "other", "( x , )", 2),
)
ANY_VALUES = [(), ((),), ("list", "between"), [("list", "between")], (["list", "between"],), True, False, 0, 1, "", "list",
              10 ** 29, [], (("list", "between"), ("list", "between")), (("list", "item"),), ((True, 1),)]


def x_then(pattern, **kinds):
    return Book(Form.whole(doc=one("x", "item") + pattern, **kinds), words=["x"], signs=[",", ";"])


def free_book(random):
    """A book with words, signs and one to three forms with brackets; most of what may stand somewhere is joined by |."""
    kinds = [["ka", "kb"], ["la", "lb"], ["ma"]][:random.randint(1, 3)]
    symbols = ["a", "b", ",", ";", *sum(kinds, [])]
    steps = [one(symbol, random.choice(["r", "s"])) for symbol in symbols]
    while True:
        forms = [Form.whole(doc=free_pattern(steps, random, 5))]
        for (name, opener, closer), names in zip((("f", "(", ")"), ("g", "[", "]"), ("h", "<", ">")), kinds):
            forms.append(Form(name, opener, closer, **{kind: free_pattern(steps, random, 4) for kind in names}))
        try:
            book = Book.of(forms, ["a", "b"], [",", ";"])
        except SlipError:
            continue
        if len(list(book.texts(3))) > 5:
            return book


def free_pattern(steps, random, size):
    if size == 1:
        return random.choice(steps)
    if random.random() < 0.35:
        pattern = free_pattern(steps, random, size)
        return ~pattern if random.random() < 0.7 else -pattern
    left = random.randint(1, size - 1)
    a, b = free_pattern(steps, random, left), free_pattern(steps, random, size - left)
    return a | b if random.random() < 0.6 else a + b


class Example(unittest.TestCase):
    def setUp(self):
        self.told = survey(EXAMPLE, Slips(Out(",")))

    def test_rows(self):
        self.assertEqual(self.told.rows, OUT_ROWS)
        self.assertIs(type(self.told.rows), tuple)
        self.assertEqual(len(self.told), 6)
        self.assertIsInstance(self.told, Survey)
        self.assertEqual(survey(slips=Slips(Out(",")), book=EXAMPLE).rows, OUT_ROWS)

    def test_truth(self):
        self.assertIs(bool(self.told), False)
        self.assertIs(bool(survey(EXAMPLE, Slips(Out("(")))), True)
        self.assertIs(bool(survey(EXAMPLE, Slips(Twice(","), Out(",")))), False)
        self.assertIs(bool(survey(EXAMPLE, Slips())), True)

    def test_fates_of(self):
        self.assertEqual(self.told.fates_of(Out(",")), FATES)
        self.assertEqual(self.told.fates_of(Out(","), None), FATES)
        self.assertEqual(self.told.fates_of(Out(","), (("round", "between"),)), FATES)
        self.assertEqual(self.told.fates_of(spots=(("list", "between"),), rule=Out(",")), FATES)
        self.assertEqual(self.told.fates_of(Twice(",")), ())
        self.assertEqual(self.told.fates_of(Out("x"), (("list", "between"),)), ())
        told = survey(EXAMPLE, Slips(Out("x"), Out("s")))
        self.assertEqual(told.fates_of(Out("x")), ("refused", "other"))
        self.assertEqual(told.fates_of(Out("x"), (("whole", "item"),)), ("refused",))
        self.assertEqual(told.fates_of(Out("s"), (("list", "joined"),)), ("other",))

    def test_least(self):
        self.assertEqual(self.told.least(Out(","), "other"), ("( x , )", 2))
        self.assertEqual(self.told.least(Out(","), "same"), ("[ x , ]", 2))
        self.assertEqual(self.told.least(Out(","), "refused"), ("( x , x )", 2))
        self.assertEqual(self.told.least(Out(","), "other", spots=(("list", "between"),)), ("[ s , s ]", 2))
        self.assertEqual(self.told.least(Out(","), "other", spots=None), ("( x , )", 2))
        self.assertEqual(self.told.least(spots=(("round", "between"),), fate="same", rule=Out(",")), ("( x , x , )", 4))
        self.assertIsNone(self.told.least(Twice(","), "other"))
        self.assertIsNone(survey(EXAMPLE, Slips(Out("("))).least(Out("("), "same"))
        with self.assertRaises(TypeError):
            self.told.least(Out(","), "other", (("list", "between"),))

    def test_spots_that_are_any_value(self):
        for spots in ANY_VALUES:
            self.assertEqual(self.told.fates_of(Out(","), spots), ())
            self.assertIsNone(self.told.least(Out(","), "same", spots=spots))

    def test_silent(self):
        self.assertEqual(self.told.silent(), Slips(Out(",")))
        slips = Slips(Out(","), Out("("), Twice("x"), Swapped(",", "x"), Swapped(",", "s"), Taken("x", "s"))
        found = survey(EXAMPLE, slips).silent()
        self.assertEqual(found, Slips(Out(","), Swapped(",", "s"), Taken("x", "s")))
        self.assertIsInstance(found, Slips)
        self.assertEqual(survey(EXAMPLE, Slips(Out("("))).silent(), Slips())

    def test_page(self):
        self.assertEqual(self.told.page(), [
            "out ,             list.between                  refused   5  [ x , x ]",
            "out ,             list.between                  same      4  [ x , ]",
            "out ,             list.between                  other     5  [ s , s ]",
            "out ,             round.between                 refused   5  ( x , x )",
            "out ,             round.between                 same      6  ( x , x , )",
            "out ,             round.between                 other     4  ( x , )",
        ])
        told = self.told.page()
        told.clear()
        self.assertEqual(len(self.told.page()), 6)
        self.assertEqual(survey(EXAMPLE, Slips(Swapped(")", ","))).page()[2],
                         "swapped ) ,       round.close + list.between    other     6  [ ( x ) , ]")
        self.assertEqual(survey(EXAMPLE, Slips()).page(), [])


class Pages(unittest.TestCase):
    def test_what_is_longer_than_its_column(self):
        inside = ~(one("word", "averylongrole") + one("!!!!", "anotherlongrole"))
        book = Book(Form.whole(doc=inside), words=["word"], signs=["!!!!"])
        spots = "whole.averylongrole + whole.anotherlongrole"
        self.assertEqual(survey(book, Slips(Swapped("word", "!!!!"))).page(),
                         [f"swapped word !!!! {spots}refused   2  word !!!!"])
        book = Book(Form.whole(doc=~(one("abcd", "r") | one("ab", "r"))), words=["abcd", "ab"], signs=[])
        spots = "whole.r + whole.r"
        self.assertEqual(survey(book, Slips(Swapped("abcd", "ab"))).page(),
                         [f"swapped abcd ab   {spots:<30}other     2  abcd ab"])

    def test_a_text_of_more_than_a_thousand_tokens(self):
        told = survey(long_book(), Slips(Out(",")))
        text = "x ," + f" ( {'x ' * 9}[ {'x ' * 9}< {'x ' * 9}> ] )" * 35
        self.assertEqual(told.rows, (
            ("out ,", (("whole", "plain"),), "refused", " ".join(text.split(" ")[:2 + 5 * 33]), 1),
            ("out ,", (("whole", "plain"),), "same", text, 1),
        ))
        start = f"{'out ,':<18}{'whole.plain':<30}"
        self.assertEqual(told.page(), [f"{start}refused 167  {told.rows[0][3]}", f"{start}same    1157  {text}"])


def long_book():
    """A book in which a comma can only be left out ahead of 35 groups of 33 tokens each, or of twice as many."""
    group = one("k", "in")
    return Book(Form.whole(doc=one("x") + -(one(",") + +(group * 5) | +(group * 7))),
                Form("f", "(", ")", k=one("x") * 9 + one("m")), Form("g", "[", "]", m=one("x") * 9 + one("n")),
                Form("h", "<", ">", n=one("x") * 9), words=["x"], signs=[","])


class AgainstAllSlips(unittest.TestCase):
    """Surveys of many small books for all rules, held against all slips in all short texts."""

    def check(self, told, book, rules, most):
        found = survey(book, Slips.of([rule_of(" ".join(rule)) for rule in rules]))
        self.check_order(found, rules)
        wanted = least_slips(all_slips(told, rules, most))
        got = {row[:3]: row[3:] for row in found.rows}
        self.assertLessEqual(set(wanted), set(got), told.forms)
        longer = 0
        for key, least in got.items():
            if len(least[0].split()) <= most:
                self.assertEqual(wanted.get(key), least, (told.forms, key))
            else:
                self.assertNotIn(key, wanted)
                rule = rule_of(key[0])
                self.assertEqual(fate(book, *least[:1], rule, least[1]), key[2])
                self.assertEqual(spots_at(book, least[0], rule, least[1]), key[1])
                longer += 1
        return len(got), longer

    def check_order(self, found, rules):
        order = [" ".join(rule) for rule in all_rules(sorted({token for rule in rules for token in rule[1:]}))]
        keys = [(order.index(row[0]), row[1], FATES.index(row[2])) for row in found.rows]
        self.assertEqual(keys, sorted(set(keys)))

    def check_tables(self, book, rules):
        """The fates are those of the tables, and each case has one."""
        rules = [rule_of(" ".join(rule)) for rule in rules]
        found = survey(book, Slips.of(rules))
        for rule in rules:
            cases = spots_of(book, rule)
            self.assertEqual(sorted({row[1] for row in found.rows if row[0] == str(rule)}), cases)
            for spots in cases:
                self.assertEqual(found.fates_of(rule, spots), table(book, rule, spots).fates)

    def test_many_books(self):
        rows = longer = 0
        random = Random(51)
        for told, book in good_books(random, 70, 8):
            rules = all_rules([*told.tokens, "?", "k"])
            with self.subTest(forms=told.forms):
                many, more = self.check(told, book, rules, 5)
                self.check_tables(book, random.sample(rules, min(len(rules), 20)))
                rows += many
                longer += more
        self.assertGreater(rows, 1500)
        self.assertGreater(longer, 200)

    def test_the_example(self):
        many, longer = self.check(example(), EXAMPLE, all_rules(EXAMPLE.tokens), 7)
        self.assertGreater(many - longer, 100)
        self.check_tables(EXAMPLE, all_rules(EXAMPLE.tokens))

    def test_brackets_that_are_exchanged(self):
        """Books in which any row may be any row, so that all exchanges lead to some text."""
        for inside in (~(one("x") | one(",") | one("k", "in") | one("n", "in")),
                       ~(one("x") + -one(",") | one("k", "in") | one("n", "in") + one(","))):
            book = Book(Form.whole(doc=inside), Form("f", "(", ")", k=inside), Form("g", "[", "]", n=inside),
                        words=["x"], signs=[","])
            rules = [rule for rule in all_rules(book.tokens) if rule[0] == "swapped"]
            found = survey(book, Slips.of([rule_of(" ".join(rule)) for rule in rules]))
            wanted = least_slips(self.slow_slips(book, rules, 6))
            self.assertEqual({row[:3]: row[3:] for row in found.rows if len(row[3].split()) <= 6}, wanted)
            self.check_tables(book, rules)

    def test_books_with_many_forms(self):
        """Books in which most rows may be anything, with up to three forms with brackets and all kinds of rules."""
        random = Random(55)
        rows = longer = 0
        for _ in range(150):
            book = free_book(random)
            rules = random.sample(all_rules(book.tokens), 30)
            most = 4 if len(list(book.texts(4))) < 400 else 3
            wanted = least_slips(self.slow_slips(book, rules, most))
            found = survey(book, Slips.of([rule_of(" ".join(rule)) for rule in rules])).rows
            self.assertEqual({row[:3]: row[3:] for row in found if len(row[3].split()) <= most}, wanted)
            for rule, spots, said, text, place in found:
                self.assertEqual(fate(book, text, rule_of(rule), place), said)
                self.assertEqual(spots_at(book, text, rule_of(rule), place), spots)
                longer += len(text.split()) > most
            rows += len(found)
        self.assertGreater(rows, 4000)
        self.assertLess(longer, rows // 2)

    def slow_slips(self, book, rules, most):
        """All slips in all texts of at most so many tokens, by the words of the book itself."""
        for text in book.texts(most):
            for rule in rules:
                made = rule_of(" ".join(rule))
                for place in made.places(text):
                    yield str(made), text, place, spots_at(book, text, made, place), fate(book, text, made, place)


class Texts(unittest.TestCase):
    def test_a_fate_that_only_a_longer_text_shows(self):
        # Five commas are needed until one less is another kind.
        comma = one(",", "between")
        book = x_then(comma * 5 + one("x", "item"), other=one("x", "item") + comma * 4 + one("x", "item"))
        self.assertEqual(survey(book, Slips(Out(","))).rows, (
            ("out ,", (("whole", "between"),), "refused", "x , , , , x", 1),
            ("out ,", (("whole", "between"),), "other", "x , , , , , x", 1),
        ))

    def test_seven_and_five(self):
        comma = one(",")
        book = x_then(~(comma * 7) | ~(comma * 5))
        told = survey(book, Slips(Out(","), Twice(",")))
        # 15 and 14 are the first neighbours of which one can be divided by 5 and the other one by 7.
        self.assertEqual(told.least(Out(","), "same"), ("x" + " ," * 15, 1))
        self.assertEqual(told.least(Twice(","), "same"), ("x" + " ," * 14, 1))
        self.assertEqual(told.least(Out(","), "refused"), ("x" + " ," * 5, 1))

    def test_the_least_place(self):
        comma = one(",")
        book = Book(Form.whole(doc=~(one("x") + comma) + one("x") + one(";")), words=["x"], signs=[",", ";"])
        told = survey(book, Slips(Swapped("x", ","), Taken("x", ";"), Swapped(",", "x")))
        self.assertEqual(told.least(Swapped("x", ","), "refused"), ("x , x ;", 0))
        self.assertEqual(told.least(Taken("x", ";"), "refused"), ("x ;", 0))
        # Two places with the same fate in the same least text.
        book = Book(Form.whole(doc=one("x") + one(",") + one(",")), words=["x"], signs=[","])
        self.assertEqual(survey(book, Slips(Out(","))).rows, (("out ,", (("whole", "plain"),), "refused", "x , ,", 1),))

    def test_the_order_of_the_tokens_tells_the_least_text(self):
        for words, wanted in ((["x", "y"], "x ,"), (["y", "x"], "y ,")):
            book = Book(Form.whole(doc=(one("x") | one("y")) + -one(",")), words=words, signs=[","])
            self.assertEqual(survey(book, Slips(Out(","))).least(Out(","), "same"), (wanted, 1))

    def test_the_least_of_several_cases(self):
        book = Book(Form.whole(doc=one("k", "in") + -one(",", "b") | one("y", "a") + -one(",", "a")),
                    Form("f", "(", ")", k=nothing()), words=["y"], signs=[","])
        told = survey(book, Slips(Out(",")))
        self.assertEqual(told.rows, (("out ,", (("whole", "a"),), "same", "y ,", 1),
                                     ("out ,", (("whole", "b"),), "same", "( ) ,", 2)))
        self.assertEqual(told.least(Out(","), "same"), ("y ,", 1))
        # The first case in the order of the rows is not the one with the least text.
        book = Book(Form.whole(doc=one("k", "in") + -one(",", "a") | one("y", "a") + -one(",", "b")),
                    Form("f", "(", ")", k=nothing()), words=["y"], signs=[","])
        told = survey(book, Slips(Out(",")))
        self.assertEqual(told.rows[0][3], "( ) ,")
        self.assertEqual(told.least(Out(","), "same"), ("y ,", 1))

    def test_equally_long_texts_of_several_cases(self):
        # By the order of the book z is less than a, and so the text of the second case is the least one.
        book = Book(Form.whole(doc=one("a", "r") + -one(",", "a") | one("z", "r") + -one(",", "b")), words=["z", "a"],
                    signs=[","])
        told = survey(book, Slips(Out(",")))
        self.assertEqual([row[3] for row in told.rows], ["a ,", "z ,"])
        self.assertEqual(told.least(Out(","), "same"), ("z ,", 1))

    def test_more_symbols_can_be_fewer_tokens(self):
        """The least row is not the one with the fewest symbols, where one of them is a long group."""
        long_group = Form("g", "[", "]", n=one("x") * 3)
        row = one("n", "in") + (one(",") + one("x") | one(";")) | one("x") * 2 + one(",") + one("x")
        told = survey(Book(Form.whole(doc=row), long_group, words=["x"], signs=[",", ";"]), Slips(Taken(",", "?")))
        self.assertEqual(told.least(Taken(",", "?"), "refused"), ("x x , x", 2))
        # The same in a group whose bracket is exchanged, on all four sides.
        row = one("n", "in") + -one(";") | one("x") * 2
        around = one("k", "in") + -one(",") | one(",") + one("k", "in")
        book = Book(Form.whole(doc=around), Form("f", "(", ")", k=row), long_group, words=["x"], signs=[",", ";"])
        told = survey(book, Slips(Swapped(")", ","), Swapped(",", "(")))
        self.assertEqual([line[2:] for line in told.rows], [("refused", "( x x ) ,", 3), ("refused", ", ( x x )", 0)])
        row = (one("n", "in") + -one(";") | one("x") * 2) + one(",")
        book = Book(Form.whole(doc=one("k", "in")), Form("f", "(", ")", k=row), long_group, words=["x"], signs=[",", ";"])
        told = survey(book, Slips(Swapped(",", ")"), Swapped("(", "x")))
        self.assertEqual([line[2:] for line in told.rows], [("refused", "( x x , )", 0), ("refused", "( x x , )", 3)])

    def test_more_symbols_can_be_fewer_tokens_beside_groups(self):
        long_group, short = Form("g", "[", "]", n=one("x") * 3), one("n", "in") + -one(";") | one("x") * 2
        k, e = one("k", "in"), one("e", "in")
        for whole, kinds, rule, least in (
            (k * 2, {"k": short}, Swapped(")", "("), ("( x x ) ( x x )", 3)),
            (k | e, {"e": nothing(), "k": short + e}, Swapped("(", ")"), ("( )", 0)),
            (k, {"e": nothing(), "k": short + e}, Swapped("(", ")"), ("( x x ( ) )", 3)),
            (short + k, {"k": one(",")}, Taken(",", "?"), ("x x ( , )", 3)),
            (short + k, {"k": one(",")}, Out("("), ("x x ( , )", 2)),
        ):
            book = Book(Form.whole(doc=whole), Form("f", "(", ")", **kinds), long_group, words=["x"], signs=[",", ";"])
            self.assertEqual(survey(book, Slips(rule)).least(rule, "refused"), least)

    def test_the_first_kind_need_not_be_the_least(self):
        la, lb = one("la", "in"), one("lb", "in")
        book = Book(Form.whole(doc=one("k", "in")), Form("f", "(", ")", k=la | lb | la * 2),
                    Form("g", "[", "]", la=one("x") * 3, lb=one("x")), words=["x"], signs=[])
        for rule, place in ((Swapped("(", "["), 0), (Swapped("]", ")"), 3), (Out("["), 1), (Twice("]"), 3)):
            self.assertEqual(survey(book, Slips(rule)).least(rule, "refused"), ("( [ x ] )", place))

    def test_deep_groups(self):
        """A slip in the innermost of groups that can only stand in one another."""
        kinds = {name: one(inner, "in") for name, inner in zip("abcdef", "bcdefg")}
        book = Book(Form.whole(doc=one("a", "in")), Form("f", "(", ")", g=one("x") + -one(","), **kinds),
                    words=["x"], signs=[","])
        told = survey(book, Slips(Out(","), Twice(",")))
        deep = "( " * 7 + "x ," + " )" * 7
        self.assertEqual(told.rows, (("out ,", (("f", "plain"),), "same", deep, 8),
                                     ("twice ,", (("f", "plain"),), "refused", deep, 8)))


class RulesOfASurvey(unittest.TestCase):
    def test_no_rule(self):
        told = survey(EXAMPLE, Slips())
        self.assertEqual((told.rows, len(told), told.silent()), ((), 0, Slips()))
        self.assertEqual(told.fates_of(Out(",")), ())

    def test_a_token_that_the_book_does_not_have(self):
        told = survey(EXAMPLE, Slips(Out("?"), Twice("!"), Swapped("?", ","), Taken("?", ","), Taken(",", "?")))
        self.assertEqual({row[0] for row in told.rows}, {"taken , ?"})
        self.assertEqual({row[2] for row in told.rows}, {"refused"})
        self.assertEqual(told.fates_of(Out("?")), ())

    def test_a_token_that_reads_like_a_kind(self):
        book = Book(Form.whole(doc=-one("k", "in") + -one("x")), Form("f", "(", ")", k=nothing()), words=["x"], signs=[])
        told = survey(book, Slips(Out("k"), Twice("k"), Taken("k", "x"), Taken("x", "k"), Swapped("k", "x")))
        self.assertEqual(told.rows, (("taken x k", (("whole", "plain"),), "refused", "x", 0),))

    def test_forty_rules(self):
        random = Random(52)
        rules = random.sample(Slips.every(EXAMPLE).rules, 40)
        told = survey(EXAMPLE, Slips.of(rules))
        one_by_one = [row for rule in Slips.of(rules).rules for row in survey(EXAMPLE, Slips(rule)).rows]
        self.assertEqual(list(told.rows), one_by_one)

    def test_the_slips_stay(self):
        slips = Slips(Out(","))
        survey(EXAMPLE, slips).silent()
        self.assertEqual(slips.rules, (Out(","),))


class Lookalikes(unittest.TestCase):
    def test_the_example(self):
        self.assertEqual(lookalikes(EXAMPLE), [("x", "s"), ("s", ",")])
        self.assertIs(type(lookalikes(book=EXAMPLE)), list)
        told = lookalikes(EXAMPLE)
        told.clear()
        self.assertEqual(len(lookalikes(EXAMPLE)), 2)

    def test_a_word_and_a_sign(self):
        book = Book(Form.whole(doc=one("x") + -one(",")), words=["x"], signs=[",", ";"])
        self.assertEqual(lookalikes(book), [])
        book = Book(Form.whole(doc=one("x") + one("x"), all=one("x") + one(";") + -one(",")), words=["x"], signs=[",", ";"])
        self.assertEqual(lookalikes(book), [("x", ";")])

    def test_signs_with_one_meaning(self):
        book = Book(Form.whole(doc=one("x") + (one(",") | one(";"))), words=["x"], signs=[",", ";"])
        self.assertEqual(lookalikes(book), [])

    def test_no_plain_tokens(self):
        self.assertEqual(lookalikes(Book(Form.whole(doc=nothing()), words=[], signs=[])), [])

    def test_many_books(self):
        met = 0
        for told, book in good_books(Random(53), 60, 7):
            plain = book.words + book.signs
            found = lookalikes(book)
            order = [(a, b) for at, a in enumerate(plain) for b in plain[at + 1:]]
            wanted = [(a, b) for a, b in order
                      if not survey(book, Slips(Taken(a, b))) or not survey(book, Slips(Taken(b, a)))]
            self.assertEqual(found, wanted, told.forms)
            met += len(found)
        self.assertGreater(met, 20)


class Meanings(unittest.TestCase):
    def test_the_fates_of_the_least_texts(self):
        """What the rows say, read by read."""
        random = Random(54)
        for _ in range(40):
            told = any_book(random, 9)
            try:
                book = told.book()
            except ValueError:
                continue
            for rule, _, said, text, place in survey(book, Slips.every(book)).rows:
                slipped = rule_of(rule)(text, place)
                self.assertIn(text, book)
                self.assertEqual(slipped in book, said != "refused")
                if said != "refused":
                    self.assertEqual(read(book, slipped) == read(book, text), said == "same")


class Interface(unittest.TestCase):
    def test_defined_in_the_file_itself(self):
        for thing in (survey, Survey, lookalikes):
            self.assertEqual(thing.__module__, "silentslips.surveys")
        for name in ("__len__", "__bool__", "fates_of", "least", "silent", "page"):
            self.assertIn(name, vars(Survey))


if __name__ == "__main__":
    unittest.main()
