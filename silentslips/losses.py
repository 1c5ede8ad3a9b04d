"""Losses: which meanings of a book another book can't write, read kind by kind."""

from heapq import heappop, heappush

from silentslips.pairs import is_number, leads_of
from silentslips.quiet import Quiet

ROW = 3


class Losses:
    """The rows (kind, state, states) of a book beside another one, and what they lead to."""

    def __init__(self, book, other):
        self._book = book
        self._other = other
        self._quiet = Quiet(other)
        self._leads = {form: leads_of(book.machine(form)) for form in book.forms}
        # By the name of a form, for each state, the kinds in which rows can end from there on.
        self._reach = {}
        for form in book.forms:
            machine = book.machine(form)
            self._reach[form] = [machine.reach(state) for state in range(len(machine))]
        # The form of the other book that has the kind, or None.
        self._partners = {kind: _partner(book, other, kind) for kind in book.kinds}
        self._groups = [kind for kind in other.kinds if other.form_of(kind) != other.forms[0]]

    def begun(self, kind):
        """The row at the beginning of a kind."""
        form = self._partners[kind]
        return kind, 0, () if form is None else self._quiet.begun(form)

    def following(self, row):
        """The rows behind one more symbol, each behind this symbol, as far as the kind can still come up."""
        kind, state, states = row
        form = self._book.form_of(kind)
        found = []
        for symbol, role, after in self._leads[form][state]:
            if kind in self._reach[form][after]:
                if symbol not in self._book.signs:
                    found.append((symbol, (kind, after, self._led(kind, states, symbol, role))))
                else:
                    found.append((symbol, (kind, after, states)))
        return found

    def is_lost(self, row):
        """Whether rows end here in the kind, and the other book can't end its rows so."""
        kind, state, states = row
        if self._book.machine(self._book.form_of(kind)).ends[state] != kind:
            return False
        if self._partners[kind] is None:
            return True
        ends = self._other.machine(self._partners[kind]).ends
        return not any([ends[there] == kind for there in states])

    def is_row(self, x):
        """Whether any value has the shape of a row of these books."""
        if not isinstance(x, tuple) or len(x) != ROW:
            return False
        kind, state, states = x
        if not (isinstance(kind, str) and kind in self._partners and is_number(state) and isinstance(states, tuple)):
            return False
        form = self._partners[kind]
        most = 0 if form is None else len(self._other.machine(form))
        if not all([is_number(there) and 0 <= there < most for there in states]):
            return False
        ascending = all([there < after for there, after in zip(states, states[1:])])
        return ascending and 0 <= state < len(self._leads[self._book.form_of(kind)])

    def _led(self, kind, states, symbol, role):
        """The states of the other book behind a word or a group."""
        form = self._partners[kind]
        known = self._other.words if symbol in self._book.words else self._groups
        if form is None or symbol not in known:
            return ()
        return self._quiet.led(form, states, symbol, role)


def least_fronts(losses, book, paths):
    """The rows that come up, each with the least tokens up to there."""
    queue = [(0, "", losses.begun(kind)) for kind in book.kinds]
    found = {}
    while queue:
        many, front, row = heappop(queue)
        if row in found:
            continue
        found[row] = front
        for symbol, after in losses.following(row):
            more = paths.letters.symbols[symbol]
            heappush(queue, (many + len(more), front + more, after))
    return found


def least_lost(losses, book, paths, fronts):
    """The least text whose meaning is lost, or None."""
    queue = []
    for row, front in fronts.items():
        if losses.is_lost(row):
            _push(queue, paths, row[0], front)
    met = {}
    while queue:
        _, letters, kind = heappop(queue)
        if kind in met:
            continue
        if book.form_of(kind) == book.forms[0]:
            return paths.letters.told(letters)
        met[kind] = True
        for form, state, _, after in paths.pairs.standing[kind]:
            for around in book.machine(form).reach(after):
                _push(queue, paths, around, paths.front(form, state) + letters + paths.end(form, after, around))
    return None


def _push(queue, paths, kind, row):
    """Puts the row of a kind on the queue, with its brackets if it has any."""
    group = paths.letters.wrapped(paths.book.form_of(kind), row)
    heappush(queue, (len(group), group, kind))


def _partner(book, other, kind):
    """The form of the other book that has the kind, or None; kinds of a whole form are told from others."""
    if kind not in other.kinds:
        return None
    form = other.form_of(kind)
    if (form == other.forms[0]) != (book.form_of(kind) == book.forms[0]):
        return None
    return form
