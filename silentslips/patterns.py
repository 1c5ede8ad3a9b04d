"""Patterns: sets of rows of steps, made by one, nothing and signs."""

from silentslips.errors import BadCount

MOST_TIMES = 9


def one(symbol, role="plain"):
    """The pattern of the row with this one step."""
    return Pattern(((symbol, role),), 1, 1, (0,), False)


def nothing():
    """The pattern of the empty row."""
    return Pattern((), 0, 0, (), True)


def numbers_in(many):
    """The numbers whose bits are set, ascending."""
    return [number for number in range(many.bit_length()) if many >> number & 1]


def _led(follow, sources, targets):
    """follow, but behind each of the sources all targets can stand, too."""
    return tuple([ahead | targets if sources >> number & 1 else ahead for number, ahead in enumerate(follow)])


def _is_step(thing):
    """Whether any value is a tuple of two strings."""
    if not isinstance(thing, tuple) or len(thing) != 2:
        return False
    return isinstance(thing[0], str) and isinstance(thing[1], str)


class Pattern:
    """A set of rows of steps; it is never changed.

    The symbols that a pattern is made of are numbered from 0. A row of the pattern is a walk over these
    numbers, and each number is on the way of some row. Sets of numbers are integers with a bit for each number:

    - marks: the step of each number
    - first, last: the numbers at which a row can begin, and end
    - follow: for each number, those that can stand behind it
    - empty: whether the empty row is one of the rows

    A place in the pattern, behind some steps, is a pair: whether a row can end there, and the numbers ahead.
    """

    def __init__(self, marks, first, last, follow, empty):
        self.marks = tuple(marks)
        self.first = first
        self.last = last
        self.follow = tuple(follow)
        self.empty = empty

    def __or__(self, other):
        move = len(self.marks)
        first = self.first | other.first << move
        last = self.last | other.last << move
        follow = self.follow + tuple([ahead << move for ahead in other.follow])
        return Pattern(self.marks + other.marks, first, last, follow, self.empty or other.empty)

    def __add__(self, other):
        both = self | other
        move = len(self.marks)
        first = both.first if self.empty else self.first
        last = both.last if other.empty else other.last << move
        follow = _led(both.follow, self.last, other.first << move)
        return Pattern(both.marks, first, last, follow, self.empty and other.empty)

    def __neg__(self):
        return Pattern(self.marks, self.first, self.last, self.follow, True)

    def __pos__(self):
        follow = _led(self.follow, self.last, self.first)
        return Pattern(self.marks, self.first, self.last, follow, self.empty)

    def __invert__(self):
        return -(+self)

    def __mul__(self, other):
        if other < 0 or other > MOST_TIMES:
            raise BadCount(other)
        rows = nothing()
        for _ in range(other):
            rows = rows + self
        return rows

    def __rmul__(self, other):
        return self * other

    def __rshift__(self, other):
        return +(self + other)

    # The next two walk as >> does and only end elsewhere, so they need no second copy of their parts, and the
    # numbers stay as many as the symbols that the pattern is made of.

    def __floordiv__(self, other):
        loop = self >> other
        last = self.last | other.last << len(self.marks) if self.empty else self.last
        return Pattern(loop.marks, loop.first, last, loop.follow, self.empty)

    def __lshift__(self, other):
        loop = self >> other
        last = self.last | other.last << len(self.marks)
        return Pattern(loop.marks, loop.first, last, loop.follow, self.empty)

    def __eq__(self, other):
        if not isinstance(other, Pattern):
            return False
        return self.within(other) and other.within(self)

    def __len__(self):
        return len(self.marks)

    def __contains__(self, x):
        if not isinstance(x, tuple):
            return False
        place = self.start()
        for step in x:
            if not _is_step(step):
                return False
            place = self.moves(place).get(step)
            if place is None:
                return False
        return place[0]

    # The parameter has the name that the document's interface gives it.
    def within(self, b):
        """Whether each row of this pattern is a row of b."""
        if self.empty and not b.empty:
            return False
        # The numbers of this pattern are walked one by one: sets of them could be far more than numbers.
        todo = list(self._beside(self.first, b, b.start()))
        # What == runs may modify lists and dicts of its own, but no set.
        seen = {pair: True for pair in todo}
        while todo:
            number, place = todo.pop()
            if place is None:
                return False
            if self.last >> number & 1 and not place[0]:
                return False
            for pair in self._beside(self.follow[number], b, place):
                if pair not in seen:
                    seen[pair] = True
                    todo.append(pair)
        return True

    def each(self, most):
        """All rows of at most so many steps: the shorter ones first, equally long ones ascending."""
        level = [((), self.start())]
        for near in self._near(most):
            for row, place in level:
                if place[0]:
                    yield row
            level = self._longer(level, near)

    def uses(self):
        """The symbols that occur in the rows, ascending."""
        return sorted({symbol for symbol, _ in self.marks})

    def start(self):
        """The place in front of the first step."""
        return self.empty, self.first

    def moves(self, place):
        """For each step that can be next at a place: the place behind it."""
        met = {}
        for number in numbers_in(place[1]):
            step = self.marks[number]
            met[step] = met.get(step, 0) | 1 << number
        return {step: self._behind(many) for step, many in met.items()}

    def _behind(self, many):
        """The place behind a step that has one of these numbers."""
        ahead = 0
        for number in numbers_in(many):
            ahead = ahead | self.follow[number]
        return (many & self.last) != 0, ahead

    def _beside(self, ahead, other, place):
        """Each number ahead, and the place in the other pattern behind the same step, or None."""
        moves = other.moves(place)
        return [(number, moves.get(self.marks[number])) for number in numbers_in(ahead)]

    def _near(self, most):
        """The numbers that can still lead to an end, where so many steps are left: for most, and down to 0."""
        near = [0]
        for _ in range(most):
            many = self.last
            for number, ahead in enumerate(self.follow):
                if ahead & near[-1]:
                    many = many | 1 << number
            near.append(many)
        return near[::-1]

    def _longer(self, level, near):
        """The rows of a level, each with one more step that has one of the near numbers; ascending if these are."""
        longer = []
        for row, (may_end, ahead) in level:
            moves = self.moves((may_end, ahead & near))
            longer.extend([(row + (step,), moves[step]) for step in sorted(moves)])
        return longer
