"""Tables: what the slips of a case lead to, in texts of any length."""

from silentslips.errors import NoCase
from silentslips.pairs import CHANGE, PAIR, Pairs, is_listed, is_number
from silentslips.paths import Paths
from silentslips.sites import cases_of

FATES = ("refused", "same", "other")


def spots_of(book, rule):
    """The spots of all cases of a rule."""
    return sorted(cases_of(Paths(book), rule))


def direct(book, rule, spots):
    """The direct pairs of a case."""
    cases = cases_of(Paths(book), rule)
    # Any value can be asked for, so it is not looked up in the dict.
    if spots not in list(cases):
        raise NoCase(str(rule), spots)
    return sorted(cases[spots])


def table(book, rule, spots):
    """The table of a case."""
    beside = Pairs(book, book)
    found = {pair: True for pair in direct(book, rule, spots)}
    todo = list(found)
    while todo:
        for entry in _led(beside, todo.pop()):
            if entry not in found:
                found[entry] = True
                todo.append(entry)
    pairs = sorted([entry for entry in found if len(entry) == PAIR])
    changes = sorted([entry for entry in found if len(entry) == CHANGE])
    whole = book.form_named(book.forms[0])
    return Table(pairs, changes, [fate_of(change) for change in changes if change[0] in whole])


class Table:
    """The pairs and changes that come up behind the slips of a case."""

    def __init__(self, pairs, changes, fates):
        self.pairs = tuple(pairs)
        self.changes = tuple(changes)
        self._fates = tuple([fate for fate in FATES if fate in fates])
        self._entries = {entry: True for entry in self.pairs + self.changes}

    @property
    def fates(self):
        """The fates of the case."""
        return self._fates

    def __contains__(self, x):
        return _is_shaped(x) and x in self._entries

    def __len__(self):
        return len(self._entries)

    def __eq__(self, other):
        return isinstance(other, Table) and self.pairs == other.pairs and self.changes == other.changes


def is_table(book, rule, spots, pairs, changes):
    """Whether pairs and changes are some, contain the direct pairs and are closed."""
    wanted = direct(book, rule, spots)
    beside = Pairs(book, book)
    if not is_listed(pairs) or not is_listed(changes):
        return False
    if not all([beside.is_pair(pair) for pair in pairs]) or not all([beside.is_change(change) for change in changes]):
        return False
    given = {entry: True for entry in [*pairs, *changes]}
    for entry in list(given):
        wanted.extend(_led(beside, entry))
    return all([entry in given for entry in wanted])


def fate_of(change):
    """The fate that the change of a kind of the whole form tells."""
    _, after, alike = change
    if after == "":
        return "refused"
    return "same" if alike else "other"


def _led(beside, entry):
    """What a closed set contains if it contains this pair or change."""
    if len(entry) == CHANGE:
        return [pair for _, _, pair in beside.lifted(entry)]
    found = [pair for _, pair in beside.moved(entry)]
    change = beside.ended(entry)
    return found if change is None else [*found, change]


# A dict takes True for 1, and it does not look up lists, so any value is looked at first.
def _is_shaped(x):
    """Whether any value has the shape of a pair or of a change."""
    if not isinstance(x, tuple) or len(x) not in (PAIR, CHANGE):
        return False
    first, *between, alike = x
    if not isinstance(first, str) or not isinstance(alike, bool):
        return False
    if len(x) == CHANGE:
        return isinstance(between[0], str)
    return is_number(between[0]) and is_number(between[1])
