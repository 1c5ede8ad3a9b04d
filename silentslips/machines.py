"""Machines: one or more kinds, each with a pattern, read together."""

from silentslips.errors import Ambiguous

NOWHERE = (False, 0)


def machine_of(kinds, order, *, form=""):
    """The machine of a list of pairs (name, pattern), with the symbols in this order."""
    names = [name for name, _ in kinds]
    ends, moves = _grown(names, [pattern for _, pattern in kinds], order, form)
    classes = _classes(ends, moves)
    # The first beginning of a class is its least one, so it has the number of the class in this order, too.
    leasts = {}
    for at, state in enumerate(classes):
        leasts.setdefault(state, at)
    steps = []
    for state, at in leasts.items():
        steps.extend([(state, symbol, role, classes[after]) for symbol, (role, after) in moves[at].items()])
    return Machine(names, steps, [ends[at] for at in leasts.values()])


class Machine:
    """The states of kinds that are read together, and what leads from one to another."""

    def __init__(self, kinds, steps, ends):
        self.steps = tuple(steps)
        self.ends = tuple(ends)
        self._kinds = tuple(kinds)
        self._leads = {}
        self._nexts = [[] for _ in self.ends]
        for state, symbol, role, after in self.steps:
            self._leads[(state, symbol)] = (role, after)
            self._nexts[state].append(after)

    def __len__(self):
        return len(self.ends)

    def go(self, state, symbol):
        """(role, next state), or None."""
        return self._leads.get((state, symbol))

    def run(self, symbols):
        """(roles, state) behind these symbols, or None if they are no beginning."""
        roles = []
        state = 0
        for symbol in symbols:
            step = self.go(state, symbol)
            if step is None:
                return None
            roles.append(step[0])
            state = step[1]
        return tuple(roles), state

    def reach(self, state):
        """The kinds in which rows can end from the state on, in the order of the kinds."""
        todo = [state]
        seen = {state}
        found = {}
        while todo:
            at = todo.pop()
            found[self.ends[at]] = True
            for after in self._nexts[at]:
                if after not in seen:
                    seen.add(after)
                    todo.append(after)
        return [kind for kind in self._kinds if kind in found]


def _grown(names, patterns, order, form):
    """The places that beginnings lead to, in the order of the least beginnings.

    Places here are a place in each pattern. Given back are the kind, or None, in which rows end there,
    and the moves from there: for each symbol its role, and the number of the places behind it.
    """
    start = tuple([pattern.start() for pattern in patterns])
    found = [(start, ())]
    numbers = {start: 0}
    ends = [_end(names, start, form, ())]
    moves = []
    while len(moves) < len(found):
        places, row = found[len(moves)]
        leads = {}
        for symbol, roles, after in _ahead(patterns, places, order):
            # Longer rows come up in their order, so the first one that is ambiguous is the least one.
            longer = row + (symbol,)
            if len(roles) > 1:
                raise Ambiguous(form, longer)
            if after not in numbers:
                ends.append(_end(names, after, form, longer))
                numbers[after] = len(found)
                found.append((after, longer))
            leads[symbol] = (roles[0], numbers[after])
        moves.append(leads)
    return ends, moves


def _end(names, places, form, row):
    """The kind, or None, in which rows end at places."""
    ended = [name for name, place in zip(names, places) if place[0]]
    if len(ended) > 1:
        raise Ambiguous(form, row)
    return ended[0] if ended else None


def _ahead(patterns, places, order):
    """The symbols that can be next, in order, each with its roles and the places behind it."""
    roles = {}
    behind = {}
    for at, pattern in enumerate(patterns):
        for (symbol, role), place in pattern.moves(places[at]).items():
            if symbol not in roles:
                roles[symbol] = []
                behind[symbol] = [NOWHERE] * len(patterns)
            if role not in roles[symbol]:
                roles[symbol].append(role)
            behind[symbol][at] = place
    return [(symbol, roles[symbol], tuple(behind[symbol])) for symbol in order if symbol in roles]


def _classes(ends, moves):
    """A number for each of the places: those that go on alike have the same one."""
    classes = _numbered(ends)
    many = 0
    while max(classes) + 1 > many:
        many = max(classes) + 1
        classes = _numbered([_sight(classes, at, leads) for at, leads in enumerate(moves)])
    return classes


def _sight(classes, at, leads):
    """What tells places from others: their class, and where they lead."""
    return classes[at], tuple([(symbol, role, classes[after]) for symbol, (role, after) in leads.items()])


def _numbered(things):
    """A number for each thing, from 0 in the order in which they first come up."""
    numbers = {}
    for thing in things:
        numbers.setdefault(thing, len(numbers))
    return [numbers[thing] for thing in things]
