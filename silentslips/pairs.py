"""Pairs and changes: what the row of one text and the row of another text lead to beside each other."""

NOWHERE = -1
# How long the tuples are.
PAIR = 4
CHANGE = 3


def is_number(x):
    """Whether any value is an integer."""
    return isinstance(x, int) and not isinstance(x, bool)


def is_listed(x):
    """Whether any value is a list or a tuple."""
    return isinstance(x, (list, tuple))


def leads_of(machine):
    """For each state of a machine: the symbols that lead from it, each with its role and the next state."""
    leads = [[] for _ in machine.ends]
    for state, symbol, role, after in machine.steps:
        leads[state].append((symbol, role, after))
    return leads


def walked(machine, state, symbols):
    """(roles, state) behind these symbols from a state on, or None."""
    roles = []
    for symbol in symbols:
        step = machine.go(state, symbol)
        if step is None:
            return None
        roles.append(step[0])
        state = step[1]
    return roles, state


# A token that reads like the name of a kind is no symbol of the book, so it is told from plain tokens here.
def side_of(book, token):
    """What a token is in a book: plain, open, close, or none."""
    if token in book.words or token in book.signs:
        return "plain"
    side = book.ways.side(token)
    return "none" if side is None else side[1]


class Pairs:
    """Where pairs and changes lead, the first row being one of a book, the second one of another or the same book.

    - leads: by the name of a form of the first book, for each state the symbols that lead from it
    - standing: for each symbol of the first book, where it stands: (form, state, role, next state)
    - partners: for each form of the first book the name of the second book's form with the same brackets, or None
    """

    def __init__(self, one, other):
        self._machines = {name: one.machine(name) for name in one.forms}
        self._words = {token: True for token in one.words if token in other.words}
        self._signs = {token: True for token in one.signs if token in other.signs}
        self._plain = {token: True for token in other.words + other.signs}
        self._groups = {kind: True for name in one.forms[1:] for kind in one.form_named(name).kinds}
        self.leads = {name: leads_of(one.machine(name)) for name in one.forms}
        self.standing = {symbol: [] for symbol in one.symbols}
        for form in one.forms:
            for state, symbol, role, after in one.machine(form).steps:
                self.standing[symbol].append((form, state, role, after))
        self.partners = {form: _partner(one.form_named(form), other) for form in one.forms}
        self._others = {form: other.machine(name) for form, name in self.partners.items() if name is not None}
        self._forms = {kind: one.form_of(kind) for kind in one.kinds}
        self._other_forms = {kind: other.form_of(kind) for kind in other.kinds}

    def is_group(self, symbol):
        """Whether a symbol is a kind of a form with brackets of the first book."""
        return symbol in self._groups

    def by_token(self, pair, lead):
        """The pair behind a plain token that leads on in the first row."""
        token, role, after = lead
        step = self._step(pair, token) if token in self._plain else None
        if step is None:
            return pair[0], after, NOWHERE, False
        still = token in self._signs or (token in self._words and step[0] == role)
        return pair[0], after, step[1], pair[3] and still

    def by_group(self, pair, lead, change):
        """The pair behind a group that leads on in the first row and changes so."""
        _, role, after = lead
        step = self._step(pair, change[1])
        if step is None:
            return pair[0], after, NOWHERE, False
        return pair[0], after, step[1], pair[3] and change[2] and step[0] == role

    def moved(self, pair):
        """The pairs behind one more symbol, the same one in both rows, each behind this symbol."""
        form, state, _, _ = pair
        found = []
        for lead in self.leads[form][state]:
            symbol = lead[0]
            if symbol in self._groups:
                found.append((symbol, self.by_group(pair, lead, (symbol, symbol, True))))
            else:
                found.append((symbol, self.by_token(pair, lead)))
        return found

    def ended(self, pair):
        """The change where the first row ends, or None if it can't end there."""
        form, state, other, alike = pair
        kind = self._machines[form].ends[state]
        if kind is None:
            return None
        after = None if other == NOWHERE else self._others[form].ends[other]
        return kind, after or "", alike and kind == after

    def lifted(self, change):
        """The pairs behind a group that changes so, each behind (form, state) of the row in front of the group."""
        found = []
        for form, state, role, after in self.standing.get(change[0], []):
            pair = self.by_group((form, state, state, True), (change[0], role, after), change)
            found.append((form, state, pair))
        return found

    def is_pair(self, x):
        """Whether any value is a pair of these books."""
        if not isinstance(x, tuple) or len(x) != PAIR:
            return False
        form, state, other, alike = x
        if not (isinstance(form, str) and form in self.leads and isinstance(alike, bool)):
            return False
        if not (is_number(state) and is_number(other) and 0 <= state < len(self.leads[form])):
            return False
        if other == NOWHERE:
            return not alike
        return form in self._others and 0 <= other < len(self._others[form])

    def is_change(self, x):
        """Whether any value is a change of these books."""
        if not isinstance(x, tuple) or len(x) != CHANGE:
            return False
        kind, after, alike = x
        if not (isinstance(kind, str) and isinstance(after, str) and isinstance(alike, bool)):
            return False
        if kind not in self._forms or (alike and kind != after):
            return False
        if after == "":
            return True
        return after in self._other_forms and self._other_forms[after] == self.partners[self._forms[kind]]

    def _step(self, pair, symbol):
        """Where a symbol leads in the second row, with its role, or None."""
        form, _, other, _ = pair
        return None if other == NOWHERE else self._others[form].go(other, symbol)


def _partner(form, book):
    """The name of the book's form with the same brackets, or None."""
    for name in book.forms:
        other = book.form_named(name)
        if (other.opener, other.closer, other.is_whole) == (form.opener, form.closer, form.is_whole):
            return name
    return None
