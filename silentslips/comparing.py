"""Comparing: whether one book is read alike by another one."""

from silentslips.errors import Uneven
from silentslips.growth import Growth
from silentslips.letters import Letters
from silentslips.pairs import CHANGE, NOWHERE, PAIR, Pairs, is_listed, side_of


def compare(one, other):
    """The comparison of one book with another one."""
    _check_even(one, other)
    return Comparison(one, other)


class Comparison:
    """The pairs and changes of one book beside another one, and the least text that shows a difference."""

    def __init__(self, one, other):
        likeness = Likeness(one, other)
        self.pairs = tuple(likeness.entries(PAIR))
        self.changes = tuple(likeness.entries(CHANGE))
        whole = one.form_named(one.forms[0])
        unlike = [likeness.worth_of(change) for change in self.changes if change[0] in whole and not change[2]]
        self.text = Letters(one).told(min(unlike)[1]) if unlike else None

    def __bool__(self):
        return self.text is None


def is_comparison(one, other, pairs, changes):
    """Whether pairs and changes are some, and contain all that follows from them and from the beginnings of rows."""
    _check_even(one, other)
    beside = Pairs(one, other)
    if not is_listed(pairs) or not all([beside.is_pair(pair) for pair in pairs]):
        return False
    if not is_listed(changes) or not all([beside.is_change(change) for change in changes]):
        return False
    given = {entry: True for entry in [*pairs, *changes]}
    wanted = _beginnings(beside)
    groups = {}
    for change in changes:
        groups.setdefault(change[0], []).append(change)
    for pair in pairs:
        wanted.extend(_following(beside, pair, groups))
    return all([entry in given for entry in wanted])


def reads_alike(one, other):
    """Whether two books have the same texts with the same meanings."""
    return bool(compare(one, other)) and bool(compare(other, one))


class Likeness(Growth):
    """What comes up in one book beside another one; its worth is (length, letters) of the least tokens up to there."""

    def __init__(self, one, other):
        Growth.__init__(self, Pairs(one, other))
        self._letters = Letters(one)
        for pair in _beginnings(self.pairs):
            self.offer(pair, (0, ""), None)
        self.grow()

    def spread(self, pair):
        row = self.worth_of(pair)[1]
        form, state, _, _ = pair
        for lead in self.pairs.leads[form][state]:
            if not self.pairs.is_group(lead[0]):
                self._offer_row(self.pairs.by_token(pair, lead), row + self._letters.symbols[lead[0]])
        change = self.pairs.ended(pair)
        if change is not None:
            self._offer_row(change, self._letters.wrapped(form, row))

    def combine(self, pair, lead, change):
        row = self.worth_of(pair)[1] + self.worth_of(change)[1]
        self._offer_row(self.pairs.by_group(pair, lead, change), row)

    def _offer_row(self, entry, row):
        self.offer(entry, (len(row), row), None)


def _beginnings(beside):
    """The pairs at the beginning of rows."""
    return [(form, 0, NOWHERE, False) if name is None else (form, 0, 0, True) for form, name in beside.partners.items()]


def _following(beside, pair, groups):
    """What follows from a pair, and from the changes of groups that are given."""
    form, state, _, _ = pair
    found = []
    for lead in beside.leads[form][state]:
        if beside.is_group(lead[0]):
            found.extend([beside.by_group(pair, lead, change) for change in groups.get(lead[0], [])])
        else:
            found.append(beside.by_token(pair, lead))
    change = beside.ended(pair)
    return found if change is None else [*found, change]


def _check_even(one, other):
    """Raises the first token that both books have but do not treat evenly."""
    for token in one.tokens:
        if token in other.tokens and side_of(one, token) != side_of(other, token):
            raise Uneven(token)
