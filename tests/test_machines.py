import unittest
from itertools import permutations, product
from random import Random

from silentslips.errors import Ambiguous, SlipError
from silentslips.machines import Machine, machine_of
from silentslips.patterns import nothing, one
from tests.told import Beginnings, any_told, build, in_order

STEPS = [("a", "x"), ("b", "y"), ("c", "x")]
MORE_STEPS = [*STEPS, ("a", "y")]


def least_ambiguous(kinds, order, **form):
    """The form and the row of the error, or None."""
    try:
        machine_of(kinds, order, **form)
    except Ambiguous as error:
        return error.form, error.row
    return None


class AgainstAllBeginnings(unittest.TestCase):
    """Machines of many small patterns against what points 9 to 11 say, row by row."""

    ORDERS = list(permutations(["a", "b", "c", "!"]))

    def check(self, kinds, order):
        most = 5
        told = Beginnings(kinds, most, 8)
        pairs = [(kind, build(pattern)) for kind, pattern in kinds]
        ambiguous = in_order(told.ambiguous(), order)
        if ambiguous:
            self.assertEqual(least_ambiguous(pairs, order, form="f"), ("f", ambiguous[0]))
            return False
        machine = machine_of(pairs, order, form="f")
        self.check_rows(machine, told, order, most)
        self.check_states(machine, told, order, most)
        self.check_steps(machine, order)
        return True

    def check_rows(self, machine, told, order, most):
        for length in range(most + 1):
            for row in product(order, repeat=length):
                found = machine.run(list(row))
                if row not in told.roles:
                    self.assertIsNone(found)
                    continue
                roles, state = found
                self.assertEqual(roles, told.role_row(row))
                self.assertEqual(machine.ends[state], told.kind(row))
                found_kinds = {kind for _, _, kind in told.ahead(row, order, 3)}
                self.assertLessEqual(found_kinds - {None}, set(machine.reach(state)))

    def check_states(self, machine, told, order, most):
        """One state for what goes on alike, numbered by the least beginnings."""
        sights, met = {}, []
        for row in in_order([row for row in told.roles if len(row) <= 2], order):
            state = machine.run(row)[1]
            sight = told.ahead(row, order, most - 2)
            self.assertEqual(sights.setdefault(state, sight), sight)
            met.append(state)
        self.assertEqual(len({str(sight) for sight in sights.values()}), len(sights))
        self.assertEqual(sorted(set(met)), list(range(len(set(met)))))
        self.assertEqual(list(dict.fromkeys(met)), sorted(set(met)))

    def check_steps(self, machine, order):
        self.assertIs(type(machine.steps), tuple)
        self.assertIs(type(machine.ends), tuple)
        self.assertEqual(len(machine), len(machine.ends))
        places = [(state, order.index(symbol)) for state, symbol, _, _ in machine.steps]
        self.assertEqual(places, sorted(set(places)))
        led = {(state, symbol): (role, after) for state, symbol, role, after in machine.steps}
        for state in range(len(machine)):
            for symbol in order:
                self.assertEqual(machine.go(state, symbol), led.get((state, symbol)))

    def check_many(self, seed, many, names, steps):
        random = Random(seed)
        good = 0
        for _ in range(many):
            kinds = [(name, any_told(random, steps, random.randint(1, 4))) for name in names]
            order = list(random.choice(self.ORDERS))
            with self.subTest(kinds=kinds, order=order):
                good += self.check(kinds, order)
        return good

    def test_one_kind(self):
        self.assertGreater(self.check_many(1, 150, ["k"], STEPS), 100)

    def test_one_kind_with_two_roles(self):
        good = self.check_many(2, 300, ["k"], [("a", "x"), ("a", "y"), ("b", "x")])
        self.assertTrue(100 < good < 290, good)

    def test_two_kinds(self):
        good = self.check_many(3, 200, ["k", "m"], STEPS)
        self.assertTrue(40 < good < 190, good)

    def test_three_kinds(self):
        good = self.check_many(4, 200, ["z", "k", "m"], MORE_STEPS)
        self.assertTrue(15 < good < 190, good)


class States(unittest.TestCase):
    def test_one_step(self):
        machine = machine_of([("k", one("a", "x"))], ["a"])
        self.assertEqual(machine.steps, ((0, "a", "x", 1),))
        self.assertEqual(machine.ends, (None, "k"))
        self.assertEqual(len(machine), 2)

    def test_the_empty_row(self):
        machine = machine_of([("k", nothing())], [])
        self.assertEqual((machine.steps, machine.ends, len(machine)), ((), ("k",), 1))
        self.assertEqual(machine.run([]), ((), 0))
        self.assertEqual(machine.reach(0), ["k"])

    def test_several_kinds(self):
        kinds = [("pair", one("a", "x") + one("b", "y")), ("row", one("a", "x") + ~one("c", "z")), ("void", nothing())]
        machine = machine_of(kinds, ["c", "b", "a"])
        self.assertEqual(machine.ends, ("void", "row", "row", "pair"))
        steps = ((0, "a", "x", 1), (1, "c", "z", 2), (1, "b", "y", 3), (2, "c", "z", 2))
        self.assertEqual(machine.steps, steps)
        self.assertEqual([machine.reach(state) for state in range(4)],
                         [["pair", "row", "void"], ["pair", "row"], ["row"], ["pair"]])

    def test_the_order_of_symbols_gives_the_numbers(self):
        kinds = [("k", one("a", "x") + one("b", "x") + one("c", "x") | one("b", "x") + one("a", "x"))]
        first = machine_of(kinds, ["a", "b", "c"])
        self.assertEqual(first.steps, ((0, "a", "x", 1), (0, "b", "x", 2), (1, "b", "x", 3), (2, "a", "x", 4),
                                       (3, "c", "x", 4)))
        second = machine_of(kinds, ["b", "a", "c"])
        self.assertEqual(second.steps, ((0, "b", "x", 1), (0, "a", "x", 2), (1, "a", "x", 3), (2, "b", "x", 4),
                                        (4, "c", "x", 3)))

    def test_strangers_in_the_order(self):
        kinds = [("k", one("b") // one("a"))]
        plain = machine_of(kinds, ["b", "a"])
        more = machine_of(kinds, ["z", "b", "", "a", "k", "plain"])
        self.assertEqual((plain.steps, plain.ends), (more.steps, more.ends))

    def test_states_that_go_on_alike_are_one(self):
        a, b, c = one("a"), one("b"), one("c")
        machine = machine_of([("k", (a + c) | (b + c))], ["a", "b", "c"])
        self.assertEqual(len(machine), 3)
        machine = machine_of([("k", (a | b) * 3 | (a | b) * 2 + c)], ["a", "b", "c"])
        self.assertEqual(len(machine), 4)
        machine = machine_of([("k", ~(a | b) | ~(a | b) + a + (a | b) * 5)], ["a", "b"])
        self.assertEqual((machine.steps, machine.ends),
                         (((0, "a", "plain", 0), (0, "b", "plain", 0)), ("k",)))

    def test_states_that_end_in_other_kinds_or_go_on_with_other_roles_are_two(self):
        a, b, c = one("a"), one("b"), one("c")
        machine = machine_of([("k", a + c), ("m", b + c)], ["a", "b", "c"])
        self.assertEqual(machine.ends, (None, None, None, "k", "m"))
        machine = machine_of([("k", a + one("c", "x") | b + one("c", "y"))], ["a", "b", "c"])
        self.assertEqual(machine.steps[2:], ((1, "c", "x", 3), (2, "c", "y", 3)))

    def test_kinds_of_any_names(self):
        machine = machine_of([("", one("a")), ("a", one("b")), ("\n", nothing())], ["a", "b"])
        self.assertEqual(machine.ends, ("\n", "", "a"))
        self.assertEqual(machine.reach(0), ["", "a", "\n"])

    def test_tuples_for_lists(self):
        machine = machine_of(kinds=(("k", one("a")),), order=("a",), form="f")
        self.assertEqual(machine.run(("a",)), (("plain",), 1))


class Going(unittest.TestCase):
    def setUp(self):
        self.machine = machine_of([("k", one("a", "x") // one(",", "s"))], [",", "a"])

    def test_go(self):
        self.assertEqual(self.machine.go(0, "a"), ("x", 1))
        self.assertEqual(self.machine.go(state=1, symbol=","), ("s", 0))
        for state, symbol in ((0, ","), (1, "a"), (0, "b"), (1, ""), (0, "x"), (0, "k"), (1, "a a")):
            self.assertIsNone(self.machine.go(state, symbol))

    def test_run(self):
        self.assertEqual(self.machine.run([]), ((), 0))
        self.assertEqual(self.machine.run(["a"]), (("x",), 1))
        self.assertEqual(self.machine.run(symbols=["a", ","]), (("x", "s"), 0))
        self.assertEqual(self.machine.run(["a", ","] * 200 + ["a"]), (("x", "s") * 200 + ("x",), 1))
        for symbols in ([","], ["a", "a"], ["b"], ["a", ""], ["a", ",", "x"], ["a", ",", "k"]):
            self.assertIsNone(self.machine.run(symbols))

    def test_run_leaves_its_argument(self):
        symbols = ["a", ",", "a", "a"]
        self.machine.run(symbols)
        self.assertEqual(symbols, ["a", ",", "a", "a"])

    def test_reach_in_the_order_of_the_kinds(self):
        kinds = [("z", one("a") + one("b")), ("m", one("a")), ("b", ~one("b")), ("a", one("c") + one("a"))]
        for order in permutations(kinds):
            machine = machine_of(list(order), ["a", "b", "c"])
            names = [name for name, _ in order]
            for symbols, kinds_ahead in (
                ([], "zmba"), (["a"], "zm"), (["b"], "b"), (["a", "b"], "z"), (["c"], "a"), (["c", "a"], "a"),
            ):
                state = machine.run(symbols)[1]
                wanted = [name for name in names if name in kinds_ahead]
                self.assertEqual(machine.reach(state), wanted)
                self.assertIs(type(machine.reach(state=state)), list)

    def test_a_told_list_can_be_changed(self):
        told = self.machine.reach(0)
        told.clear()
        self.assertEqual(self.machine.reach(0), ["k"])

    def test_changed_arguments_change_nothing(self):
        kinds, order = [["k", one("a")]], ["a", "b"]
        machine = machine_of(kinds, order)
        kinds[0][1] = one("b")
        kinds.append(("m", nothing()))
        order.clear()
        self.assertEqual((machine.steps, machine.ends, machine.reach(0)), (((0, "a", "plain", 1),), (None, "k"), ["k"]))

    def test_arguments_are_not_changed(self):
        kinds, order = [("k", one("a")), ("m", nothing())], ["b", "a"]
        machine_of(kinds, order)
        self.assertEqual(([name for name, _ in kinds], order), (["k", "m"], ["b", "a"]))

    def test_equal_to_nothing_of_another_class(self):
        for other in (None, 2, True, "", self.machine.steps, self.machine.ends):
            self.assertFalse(self.machine == other)


class AmbiguousTuples(unittest.TestCase):
    def test_the_example_of_the_document(self):
        pattern = one("a", "x") + one("b", "y") | one("a", "z") + one("c", "y")
        self.assertEqual(least_ambiguous([("k", pattern)], ["a", "b", "c"]), ("", ("a",)))
        kinds = [("k", one("a", "x") + one("b", "y")), ("m", one("a", "z") + one("c", "y"))]
        self.assertEqual(least_ambiguous(kinds, ["a", "b", "c"], form="f"), ("f", ("a",)))

    def test_two_roles_behind_one_beginning(self):
        a = one("a")
        kinds = [("k", a + a + one("b", "x") + one("c"))]
        self.assertIsNone(least_ambiguous(kinds, ["a", "b", "c"]))
        kinds.append(("m", a + a + one("b", "y")))
        self.assertEqual(least_ambiguous(kinds, ["a", "b", "c"]), ("", ("a", "a", "b")))
        pattern = ~(one("a", "x") + one("b", "x")) + -one("a", "y")
        self.assertEqual(least_ambiguous([("k", pattern)], ["a", "b"]), ("", ("a",)))

    def test_the_same_symbol_with_two_roles_at_two_places_is_not(self):
        pattern = one("a", "x") + one("a", "y")
        self.assertIsNone(least_ambiguous([("k", pattern)], ["a"]))
        kinds = [("k", one("b") + one("a", "x")), ("m", one("c") + one("a", "y"))]
        self.assertIsNone(least_ambiguous(kinds, ["a", "b", "c"]))

    def test_a_row_of_two_kinds(self):
        a, b = one("a"), one("b")
        self.assertEqual(least_ambiguous([("k", a + b), ("m", a + -b)], ["a", "b"]), ("", ("a", "b")))
        self.assertEqual(least_ambiguous([("k", +a), ("m", a * 4)], ["a"]), ("", ("a",) * 4))
        self.assertIsNone(least_ambiguous([("k", a + a | a), ("m", a * 3)], ["a"]))

    def test_two_ways_to_one_row_of_one_kind_are_not(self):
        a = one("a")
        self.assertIsNone(least_ambiguous([("k", ~a | ~(a + a) | a)], ["a"]))

    def test_the_empty_tuple(self):
        a = one("a", "x")
        kinds = [("k", -a), ("m", nothing())]
        self.assertEqual(least_ambiguous(kinds, ["a"]), ("", ()))
        kinds = [("k", -a), ("m", -one("a", "y")), ("n", a)]
        self.assertEqual(least_ambiguous(kinds, ["a"], form="f"), ("f", ()))

    def test_the_least_one_of_several(self):
        twice = (one("a", "x") | one("a", "y")) | (one("b", "x") | one("b", "y"))
        self.assertEqual(least_ambiguous([("k", twice)], ["a", "b"]), ("", ("a",)))
        self.assertEqual(least_ambiguous([("k", twice)], ["b", "a"]), ("", ("b",)))
        self.assertEqual(least_ambiguous([("k", one("c") + twice | one("d") + twice)], ["d", "b", "c", "a"]),
                         ("", ("d", "b")))
        kinds = [("k", one("a") + twice), ("m", one("b"))]
        self.assertEqual(least_ambiguous([*kinds, ("n", one("b"))], ["a", "b"]), ("", ("b",)))
        self.assertEqual(least_ambiguous([*kinds, ("n", one("b") + one("b") | one("b") * 2)], ["a", "b"]),
                         ("", ("a", "a")))
        self.assertEqual(least_ambiguous([("k", one("b")), ("m", one("b") | one("a") + twice)], ["a", "b"]),
                         ("", ("b",)))

    def test_of_equal_length_the_order_of_the_symbols_counts(self):
        a, b, c = one("a"), one("b"), one("c")
        roles = one("c", "x") | one("c", "y")
        kinds = [("k", a + roles | b + c), ("m", b + c)]
        self.assertEqual(least_ambiguous(kinds, ["a", "b", "c"]), ("", ("a", "c")))
        self.assertEqual(least_ambiguous(kinds, ["b", "a", "c"]), ("", ("b", "c")))
        self.assertEqual(least_ambiguous(kinds, ["c", "b", "a"]), ("", ("b", "c")))

    def test_the_roles_of_signs_count(self):
        pattern = one("x", "item") + (one(",", "end") | one(",", "between") + one("x", "item"))
        self.assertEqual(least_ambiguous([("k", pattern)], ["x", ","]), ("", ("x", ",")))

    def test_the_form_that_was_passed(self):
        kinds = [("k", nothing()), ("m", nothing())]
        for form in ("f", "", "whole", "some words"):
            self.assertEqual(least_ambiguous(kinds, [], form=form), (form, ()))
        with self.assertRaises(SlipError):
            machine_of(kinds, [])
        with self.assertRaises(TypeError):
            machine_of(kinds, [], "f")


class Large(unittest.TestCase):
    def test_one_large_pattern(self):
        a, b = one("a"), one("b")
        machine = machine_of([("k", ~(a | b) + a + (a | b) * 5)], ["a", "b"])
        self.assertEqual(len(machine), 64)
        self.assertEqual(machine.run(list("bab") + list("ab") * 3)[1] in range(64), True)
        self.assertEqual(machine.ends[machine.run(list("bbabbbbb"))[1]], "k")
        self.assertIsNone(machine.ends[machine.run(list("abbbbbb"))[1]])

    def test_one_pattern_of_sixteen_symbols(self):
        a = one("a")
        cycles = ~(a * 4) | ~(a * 5) | ~(a * 7)
        self.assertEqual(len(cycles), 16)
        machine = machine_of([("k", cycles)], ["a"])
        self.assertEqual(len(machine), 140)
        wanted = tuple("k" if at % 4 == 0 or at % 5 == 0 or at % 7 == 0 else None for at in range(140))
        self.assertEqual(machine.ends, wanted)
        self.assertEqual(machine.steps[-1], (139, "a", "plain", 0))

    def test_forty_symbols_in_eight_kinds(self):
        names = ["s" + letter for letter in "abcdefgh"]
        kinds = [(name, ~one("x") + one(name) + one("y") * 3) for name in names]
        self.assertEqual(sum(len(pattern) for _, pattern in kinds), 40)
        machine = machine_of(kinds, ["x", "y", *names])
        self.assertEqual(len(machine), 33)
        self.assertEqual(machine.reach(0), names)
        self.assertEqual([kind for kind in machine.ends if kind], names)

    def test_kinds_that_go_far_together(self):
        a = one("a")
        kinds = [("k", ~(a * 8) + one("x")), ("m", ~(a * 7) + one("y")), ("n", ~(a * 9) + one("z"))]
        machine = machine_of(kinds, ["a", "x", "y", "z"])
        self.assertEqual(len(machine), 8 * 7 * 9 + 3)
        self.assertEqual(machine.reach(5), ["k", "m", "n"])

    def test_a_least_ambiguous_row_far_away(self):
        a = one("a")
        kinds = [("k", +(a * 9)), ("m", +(a * 8))]
        self.assertEqual(least_ambiguous(kinds, ["a"]), ("", ("a",) * 72))


class Interface(unittest.TestCase):
    def test_defined_in_the_class_itself(self):
        for name in ("__len__", "go", "run", "reach"):
            self.assertIn(name, vars(Machine))
        self.assertEqual(machine_of.__module__, "silentslips.machines")
        self.assertIs(type(machine_of([("k", nothing())], [])), Machine)


if __name__ == "__main__":
    unittest.main()
