import unittest
from itertools import product
from random import Random

from silentslips.errors import BadCount, SlipError
from silentslips.patterns import Pattern, nothing, one
from tests.told import ONE_SIDED, TWO_SIDED, any_row, any_told, build, changed_rows, is_row, rows

A, B, C = ("one", "a", "x"), ("one", "b", "x"), ("one", "c", "x")
STEPS = [("a", "x"), ("a", "y"), ("b", "x")]


def in_order(found):
    return sorted(found, key=lambda row: (len(row), row))


def signs_over(inner, other):
    """The told patterns that are one sign over inner, with other on the other side."""
    found = [(sign, inner) for sign in ONE_SIDED] + [("*", inner, n) for n in (0, 1, 2, 3)]
    for sign in TWO_SIDED:
        found += [(sign, inner, other), (sign, other, inner)]
    return found


def letters(text, role="x"):
    return tuple((letter, role) for letter in text)


def spelled(pattern, most):
    return ["".join(symbol for symbol, _ in row) for row in pattern.each(most)]


class Signs(unittest.TestCase):
    """Which rows each sign means."""

    def check(self, told, most=5):
        pattern = build(told)
        wanted = rows(told, most)
        with self.subTest(told=told):
            self.assertEqual(list(pattern.each(most)), in_order(wanted))
            for length in range(min(most, 4) + 1):
                for row in product([("a", "x"), ("b", "x"), ("c", "x")], repeat=length):
                    self.assertEqual(row in pattern, row in wanted)

    def test_the_words_of_the_document(self):
        a, b = one("a", "x"), one("b", "x")
        self.assertEqual(spelled(a, 8), ["a"])
        self.assertEqual(spelled(nothing(), 8), [""])
        self.assertEqual(spelled(a + b, 8), ["ab"])
        self.assertEqual(spelled(a | b, 8), ["a", "b"])
        self.assertEqual(spelled(-a, 8), ["", "a"])
        self.assertEqual(spelled(+a, 3), ["a", "aa", "aaa"])
        self.assertEqual(spelled(~a, 3), ["", "a", "aa", "aaa"])
        self.assertEqual(spelled(a // b, 6), ["a", "aba", "ababa"])
        self.assertEqual(spelled(a << b, 5), ["a", "ab", "aba", "abab", "ababa"])
        self.assertEqual(spelled(a >> b, 6), ["ab", "abab", "ababab"])

    def test_each_sign_alone(self):
        for told in signs_over(A, B) + [A, ("nothing",)]:
            self.check(told)

    def test_each_sign_in_each_sign(self):
        for inner in signs_over(A, B):
            for told in signs_over(inner, C):
                self.check(told, 4)

    def test_each_sign_over_the_same_symbol(self):
        for inner in signs_over(A, A):
            for told in signs_over(inner, A):
                self.check(told, 6)

    def test_each_sign_over_the_empty_row(self):
        for inner in signs_over(("nothing",), ("-", A)) + signs_over(("nothing",), ("nothing",)):
            for told in signs_over(inner, ("nothing",)) + signs_over(inner, ("~", B)):
                self.check(told, 4)

    def test_many_signs_in_one_another(self):
        random = Random(6)
        for _ in range(400):
            self.check(any_told(random, STEPS, 6), 4)

    def test_role_is_plain_where_none_is_told(self):
        self.assertEqual(list(one("a").each(2)), [(("a", "plain"),)])
        self.assertEqual(list(one(role="r", symbol="a").each(2)), [(("a", "r"),)])


class Times(unittest.TestCase):
    def test_each_number_from_both_sides(self):
        for part in (one("a", "x"), one("a", "x") | one("b", "x") + one("a", "x")):
            sums = nothing()
            for n in range(10):
                with self.subTest(n=n):
                    self.assertEqual(part * n, sums)
                    self.assertEqual(n * part, sums)
                    self.assertEqual(len(part * n), n * len(part))
                    self.assertEqual(len(n * part), n * len(part))
                sums = sums + part

    def test_zero_and_nine(self):
        a = one("a", "x")
        self.assertEqual(list((a * 0).each(8)), [()])
        self.assertEqual(list((0 * a).each(8)), [()])
        self.assertEqual(list((a * 9).each(8)), [])
        self.assertIn(letters("a" * 9), a * 9)
        self.assertNotIn(letters("a" * 8), 9 * a)
        self.assertNotIn(letters("a" * 10), 9 * a)

    def test_numbers_out_of_bounds(self):
        for n in (-1, -2, -9, -(10 ** 29), 10, 11, 99, 10 ** 29):
            for part in (one("a"), nothing(), one("a") | one("b")):
                with self.subTest(n=n):
                    with self.assertRaises(BadCount) as left:
                        part * n
                    with self.assertRaises(SlipError) as right:
                        n * part
                    self.assertEqual((left.exception.count, right.exception.count), (n, n))
                    self.assertIs(type(right.exception), BadCount)


class Rows(unittest.TestCase):
    """What is in a pattern."""

    def test_long_rows_and_changed_ones(self):
        random = Random(7)
        long = yes = no = 0
        for _ in range(300):
            told = any_told(random, STEPS, 8)
            pattern = build(told)
            for again in (2, 4, 9):
                row = any_row(told, random, again)[:60]
                for held in [row, *changed_rows(row, STEPS, random)]:
                    wanted = is_row(told, held)
                    self.assertIs(held in pattern, wanted, (told, held))
                    long += len(held) > 8
                    yes += wanted and len(held) > 8
                    no += not wanted and len(held) > 8
        self.assertGreater(yes, 200)
        self.assertGreater(no, 200)

    def test_very_long_rows(self):
        pattern = (one("a", "x") | one("b", "x")) >> one("c", "x")
        self.assertIn(letters("acbc" * 1200), pattern)
        self.assertNotIn(letters("acbc" * 1200 + "a"), pattern)

    def test_the_empty_row(self):
        a, b = one("a"), one("b")
        for pattern in (nothing(), -a, ~a, a * 0, -a // b, -a << b, -a >> -b, -a + -b, a | nothing(), +-a):
            self.assertIn((), pattern)
            self.assertEqual(next(pattern.each(0)), ())
        for pattern in (a, +a, a // -b, a << b, a >> b, -a >> b, a + -b, -a + b, a * 9):
            self.assertNotIn((), pattern)
            self.assertEqual(list(pattern.each(0)), [])

    def test_what_is_no_row(self):
        a = ~one("a", "x") + -one("", "")
        step = ("a", "x")
        self.assertIn((step, step, ("", "")), a)
        deep = step
        for level in range(160):
            deep = [deep] if level % 3 else (deep,)
        things = [
            None, True, False, 0, 1, 10 ** 29, "", "a", "ax", [], [step], ([*step],), (list(step), step),
            step, (step, None), ("ax",), ("ax", "ax"), (("a",),), (("a", "x", "x"),), ((),), ([],), (None,),
            (True,), (1, 2), ((True, "x"),), (("a", None),), ((("a",), "x"),), (("a", ["x"]),), ((["a"], "x"),),
            (step, (step, step)), (step, [step]), deep, (deep,), ((deep, deep),), (("a", "x "),), (("A", "x"),),
        ]
        for thing in things:
            with self.subTest(thing=thing):
                self.assertNotIn(thing, a)

    def test_other_roles_and_strangers(self):
        pattern = one("a", "x") + one("b", "y")
        self.assertIn((("a", "x"), ("b", "y")), pattern)
        for row in ((("a", "y"), ("b", "y")), (("a", "x"), ("b", "x")), (("x", "a"), ("b", "y")), (("c", "x"),)):
            self.assertNotIn(row, pattern)


class Each(unittest.TestCase):
    def test_is_a_generator(self):
        told = (+one("a")).each(8)
        self.assertIs(iter(told), told)
        self.assertEqual(next(told), (("a", "plain"),))

    def test_by_name(self):
        self.assertEqual(list(one("a").each(most=1)), [(("a", "plain"),)])

    def test_ascending_as_tuples(self):
        steps = [("b", "a"), ("a", "b"), ("a", "a"), ("B", "z"), ("!", "z"), ("ab", "a")]
        pattern = one(*steps[0])
        for step in steps[1:]:
            pattern = pattern | one(*step)
        wanted = in_order([(x, y) for x in steps for y in steps])
        self.assertEqual(list((pattern * 2).each(8)), wanted)

    def test_many_ways_to_one_row(self):
        a = one("a")
        pattern = ~(a | a + a | a * 3 | ~a) | +a
        self.assertEqual([len(row) for row in pattern.each(8)], list(range(9)))

    def test_rows_that_would_be_too_long_cost_nothing(self):
        many = one("s0")
        for at in range(1, 8):
            many = many | one(f"s{at}")
        self.assertEqual(list((+many + one("end") * 8).each(8)), [])
        few = list((+many + one("end") * 6).each(8))
        self.assertEqual(len(few), 8 + 64)


class Comparing(unittest.TestCase):
    """== and within."""

    def test_written_otherwise(self):
        a, b, c = one("a", "x"), one("b", "x"), one("c", "x")
        pairs = [
            (a // b, a + ~(b + a)), (a << b, (a // b) + -b), (a >> b, +(a + b)), (a << b, a // b | a >> b),
            (~a, -+a), (~a, +-a), (-a, a | nothing()), (+a, a + ~a), (~(a | b), ~(~a + ~b)),
            (a | b, b | a), (a + (b | c), a + b | a + c), ((a + b) + c, a + (b + c)), (~~a, ~a),
            (a * 3, a + a + a), (a * 0, nothing()), (~nothing(), nothing()), (~(a * 2) + -a, ~a),
            (a // nothing(), +a), (nothing() // a, ~a), ((-a) // b, ~(-a + b) + -a),
            (~(a | b) + a + (a | b) * 6, ~(b | a) + +a + 6 * (b | a)),
        ]
        for left, right in pairs:
            self.assertTrue(left == right)
            self.assertFalse(left != right)
            self.assertTrue(left.within(right) and right.within(left))

    def test_one_row_more(self):
        a, b = one("a", "x"), one("b", "x")
        for n in range(1, 6):
            less = a * 0
            for many in range(1, n):
                less = less | a * many
            more = less | a * n
            self.assertTrue(less.within(more))
            self.assertFalse(more.within(less))
            self.assertFalse(less == more)
            self.assertTrue(less != more)
        self.assertFalse(~a == +a)
        self.assertTrue((+a).within(~a))
        self.assertFalse((~a).within(+a))
        self.assertFalse(~(a | b) + a + (a | b) * 6 == ~(a | b) + b + (a | b) * 6)
        self.assertFalse((a * 9).within(a * 8))
        self.assertTrue((~(a * 6)).within(~(a * 3)))
        self.assertFalse((~(a * 3)).within(~(a * 6)))
        self.assertFalse(~(a * 7) | ~(a * 8) == ~a)

    def test_another_role_or_symbol(self):
        self.assertFalse(one("a", "x") == one("a", "y"))
        self.assertFalse(one("a", "x") == one("b", "x"))
        self.assertTrue(one("a") == one("a", "plain"))
        self.assertFalse(~one("a", "x") == ~(one("a", "x") | one("a", "y")))
        self.assertTrue((~one("a", "x")).within(~(one("a", "x") | one("a", "y"))))

    def test_neither_within_the_other(self):
        a, b = one("a"), one("b")
        self.assertFalse((a | a + b).within(a | b))
        self.assertFalse((a | b).within(a | a + b))

    def test_against_all_short_rows(self):
        random = Random(8)
        yes = 0
        for _ in range(600):
            steps = STEPS[:random.randint(1, 2)]
            left, right = any_told(random, steps, 3), any_told(random, steps, 3)
            one_set, other = rows(left, 9), rows(right, 9)
            with self.subTest(left=left, right=right):
                self.assertEqual(build(left).within(build(right)), one_set <= other)
                self.assertEqual(build(left) == build(right), one_set == other)
            yes += one_set == other
        self.assertGreater(yes, 20)

    def test_largest_patterns(self):
        a, b = one("a"), one("b")
        left = ~(a | b) + a + (a | b) * 6
        self.assertEqual(len(left), 15)
        self.assertTrue(left == ~(b | a) + a + 6 * (b | a))
        self.assertTrue((+(a * 9) | +(a * 7)).within(~a))
        self.assertFalse((~a).within(~(a * 9) | ~(a * 7)))

    def test_sixteen_symbols_and_forty_signs(self):
        pattern = one("a")
        for at in range(15):
            pattern = -(pattern // one("b" if at % 2 else "a"))
        for _ in range(5):
            pattern = +-pattern
        self.assertEqual(len(pattern), 16)
        self.assertTrue(pattern == ~(one("a") | one("b")))
        self.assertFalse(pattern == +(one("a") | one("b")))

    def test_nothing_of_another_class(self):
        for other in (None, 0, 1, True, "a", (), [], ((),), (("a", "plain"),), [()], object(), Pattern):
            self.assertFalse(one("a") == other)
            self.assertTrue(one("a") != other)
            self.assertFalse(nothing() == other)


class Counting(unittest.TestCase):
    """len and uses."""

    def test_len(self):
        a, b = one("a"), one("b")
        self.assertEqual((len(a), len(nothing()), len(nothing() + nothing())), (1, 0, 0))
        for pattern in (a + b, a | b, a // b, a << b, a >> b, a + a, a | a, -(a | b), +(a | b), ~(a + b)):
            self.assertEqual(len(pattern), 2)
        self.assertEqual(len((a + b) * 4), 8)
        self.assertEqual(len(4 * (a // b) + a), 9)
        self.assertEqual(len((a | b) * 0), 0)
        self.assertEqual(len((a | b) * 0 + b), 1)

    def test_len_does_not_look_at_rows(self):
        a = one("a")
        pattern = a
        for _ in range(15):
            pattern = pattern << a
        self.assertEqual(len(pattern), 16)
        self.assertTrue(pattern == +a)

    def test_len_of_three_times_as_many(self):
        pattern = (one("a") // one("b") << one("c")) * 8 * 2
        self.assertEqual(len(pattern), 48)
        for _ in range(70):
            pattern = -pattern
        self.assertEqual(len(pattern), 48)

    def test_uses(self):
        pattern = one("b") + one("a", "x") | one("!!") // one("a", "y") << one("word") >> one("B")
        self.assertEqual(pattern.uses(), ["!!", "B", "a", "b", "word"])
        self.assertEqual(nothing().uses(), [])
        self.assertEqual((one("a") * 0 + one("b")).uses(), ["b"])
        self.assertEqual((one("a") | one("c") * 0).uses(), ["a"])


class Unchanged(unittest.TestCase):
    def test_a_pattern_stays_as_it_was(self):
        part, other = -one("a", "x"), one("b", "x")
        before = (list(part.each(4)), list(other.each(4)), len(part), len(other), part.uses())
        build_all = [part + other, part | other, part // other, part << other, part >> other, -part, +part, ~part]
        build_all += [part * 3, 3 * part, other * 0, +(part + other), other // part]
        self.assertTrue(part == -one("a", "x") and part.within(~part) and (("a", "x"),) in part)
        after = (list(part.each(4)), list(other.each(4)), len(part), len(other), part.uses())
        self.assertEqual(before, after)
        self.assertEqual(len(build_all), 13)

    def test_a_name_that_is_assigned_again(self):
        a = part = one("a")
        a = a + a
        self.assertEqual(len(part), 1)
        a += part
        self.assertEqual((len(part), len(a)), (1, 3))

    def test_a_told_list_can_be_changed(self):
        pattern = one("a") + one("b")
        told = pattern.uses()
        told.clear()
        self.assertEqual(pattern.uses(), ["a", "b"])
        found = list(pattern.each(2))
        found.clear()
        self.assertEqual(len(list(pattern.each(2))), 1)

    def test_two_generators_at_once(self):
        pattern = ~one("a")
        left, right = pattern.each(8), pattern.each(8)
        self.assertEqual([(next(left), next(right)) for _ in range(9)], [(row, row) for row in pattern.each(8)])

    def test_no_iteration(self):
        with self.assertRaises(TypeError):
            iter(one("a"))


class Interface(unittest.TestCase):
    def test_defined_in_the_class_itself(self):
        for name in ("__eq__", "within", "__len__", "__contains__", "each", "uses", "__mul__", "__rmul__"):
            self.assertIn(name, vars(Pattern))
        for maker in (one, nothing):
            self.assertEqual(maker.__module__, "silentslips.patterns")

    def test_within_by_name(self):
        self.assertTrue(one("a").within(b=one("a")))


if __name__ == "__main__":
    unittest.main()
