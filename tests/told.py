"""What the document says of patterns and machines, worked out row by row and slowly.

A pattern is told here by nested tuples: ("one", symbol, role), ("nothing",), ("*", told, n), or a sign
and one or two of them. build makes the Pattern of it.
"""

from itertools import product

from silentslips.patterns import nothing, one

ONE_SIDED = {"-": lambda a: -a, "+1": lambda a: +a, "~": lambda a: ~a}
TWO_SIDED = {
    "+": lambda a, b: a + b,
    "|": lambda a, b: a | b,
    "//": lambda a, b: a // b,
    "<<": lambda a, b: a << b,
    ">>": lambda a, b: a >> b,
}


def build(told):
    sign = told[0]
    if sign == "one":
        return one(told[1], told[2])
    if sign == "nothing":
        return nothing()
    if sign == "*":
        return build(told[1]) * told[2]
    if sign in ONE_SIDED:
        return ONE_SIDED[sign](build(told[1]))
    return TWO_SIDED[sign](build(told[1]), build(told[2]))


def plain(told):
    """The same rows by "one", "nothing", "+", "|" and "~" alone, as point 6 writes the other signs."""
    sign = told[0]
    if sign in ("one", "nothing"):
        return told
    a = plain(told[1])
    if sign == "*":
        rows = ("nothing",)
        for _ in range(told[2]):
            rows = ("+", rows, a)
        return rows
    if sign == "~":
        return ("~", a)
    if sign == "-":
        return ("|", a, ("nothing",))
    if sign == "+1":
        return ("+", a, ("~", a))
    b = plain(told[2])
    if sign in ("+", "|"):
        return (sign, a, b)
    if sign == ">>":
        return ("+", ("+", a, b), ("~", ("+", a, b)))
    between = ("+", a, ("~", ("+", b, a)))
    return between if sign == "//" else ("+", between, ("|", b, ("nothing",)))


def _rows(told, most):
    sign = told[0]
    if sign == "one":
        return {((told[1], told[2]),)} if most else set()
    if sign == "nothing":
        return {()}
    a = _rows(told[1], most)
    if sign == "~":
        found = {()}
        new = {()}
        while new:
            new = _chained(new, a, most) - found
            found |= new
        return found
    b = _rows(told[2], most)
    return a | b if sign == "|" else _chained(a, b, most)


def _chained(a, b, most):
    return {one_row + other for one_row in a for other in b if len(one_row) + len(other) <= most}


def rows(told, most):
    """The set of all rows of at most so many steps."""
    return _rows(plain(told), most)


def _stops(told, row, starts):
    """All indexes at which a row of the pattern can stop that begins in row at one of starts."""
    sign = told[0]
    if sign == "one":
        return {at + 1 for at in starts if row[at:at + 1] == (told[1:],)}
    if sign == "nothing":
        return set(starts)
    if sign == "|":
        return _stops(told[1], row, starts) | _stops(told[2], row, starts)
    if sign == "+":
        return _stops(told[2], row, _stops(told[1], row, starts))
    found = set(starts)
    while True:
        more = _stops(told[1], row, found) - found
        if not more:
            return found
        found |= more


def is_row(told, row):
    return len(row) in _stops(plain(told), row, {0})


def any_row(told, random, again):
    """Some row of the pattern; again says how often what may come again does."""
    sign = told[0]
    if sign == "one":
        return (told[1:],)
    if sign == "nothing":
        return ()
    if sign == "*":
        return sum([any_row(told[1], random, again) for _ in range(told[2])], ())
    if sign == "|":
        return any_row(random.choice(told[1:]), random, again)
    if sign == "-":
        return any_row(told[1], random, again) if random.random() < 0.5 else ()
    if sign == "+":
        return any_row(told[1], random, again) + any_row(told[2], random, again)
    times = random.randint(1, again)
    if sign in ("+1", "~"):
        times -= sign == "~" and random.random() < 0.3
        return sum([any_row(told[1], random, again) for _ in range(times)], ())
    found = ()
    for at in range(times):
        found += any_row(told[1], random, again)
        if sign == ">>" or at + 1 < times or (sign == "<<" and random.random() < 0.5):
            found += any_row(told[2], random, again)
    return found


def changed_rows(row, steps, random):
    """The row with a step more, less, twice, elsewhere or another one."""
    if not row:
        return [(step,) for step in steps]
    at, other = random.randrange(len(row)), random.randrange(len(row))
    step = random.choice(steps)
    moved = list(row)
    moved[at], moved[other] = moved[other], moved[at]
    return [
        row[:at] + row[at + 1:],
        row[:at] + row[at:at + 1] + row[at:],
        row[:at] + (step,) + row[at + 1:],
        row[:at] + (step,) + row[at:],
        tuple(moved),
    ]


def any_told(random, steps, size):
    """Some pattern that is made of at most so many symbols."""
    if size < 2 or random.random() < 0.1:
        return ("nothing",) if random.random() < 0.1 else ("one", *random.choice(steps))
    sign = random.choice(["-", "+1", "~", "*", "+", "+", "|", "|", "//", "<<", ">>"])
    if sign == "*":
        times = random.randint(0, 2)
        return ("*", any_told(random, steps, size // 2), times)
    if sign in ONE_SIDED:
        return (sign, any_told(random, steps, size - 1))
    left = random.randint(1, size - 1)
    return (sign, any_told(random, steps, left), any_told(random, steps, size - left))


def in_order(tuples, order):
    """Tuples of symbols as point 9 orders them."""
    return sorted(tuples, key=lambda row: (len(row), [order.index(symbol) for symbol in row]))


class Beginnings:
    """All beginnings of at most `most` symbols of told kinds, from the rows of at most `longest` steps."""

    def __init__(self, kinds, most, longest):
        self.roles = {}
        self.kinds = {}
        for kind, told in kinds:
            for row in rows(told, longest):
                symbols = tuple(symbol for symbol, _ in row)
                roles = tuple(role for _, role in row)
                for length in range(min(most, len(row)) + 1):
                    self.roles.setdefault(symbols[:length], set()).add(roles[:length])
                if len(row) <= most:
                    self.kinds.setdefault(symbols, set()).add(kind)

    def ambiguous(self):
        found = {row for row, roles in self.roles.items() if len(roles) > 1}
        return found | {row for row, kinds in self.kinds.items() if len(kinds) > 1}

    def role_row(self, row):
        return next(iter(self.roles[row]))

    def kind(self, row):
        return next(iter(self.kinds.get(row, {None})))

    def ahead(self, row, order, most):
        """How a beginning goes on: what follows, up to so many symbols, with the roles and the kinds."""
        found = []
        for length in range(most + 1):
            for more in product(order, repeat=length):
                if row + more in self.roles:
                    found.append((more, self.role_row(row + more)[len(row):], self.kind(row + more)))
        return tuple(found)
