"""Rows that are being read, and the ways from one to the next, token by token."""


class Row:
    """A row of which not all has been read; it is never changed.

    - form, state: the name of its form, and the state of the form's machine behind what has been read
    - behind: the kinds that the row may get, each with the fewest tokens that can stand behind its end
    - around: the row in which its group stands, or None
    - level: how many groups are open
    """

    def __init__(self, form, state, behind, around):
        self.form = form
        self.state = state
        self.behind = behind
        self.around = around
        self.level = 0 if around is None else around.level + 1


class Ways:
    """Where the tokens of a book lead: only to rows from which some text of the book goes on.

    It needs no look at what is around a row: the kinds that a group may get are worked out at its opener.
    """

    def __init__(self, forms, tokens, machines, rests):
        self._tokens = tuple(tokens)
        self._machines = machines
        self._kinds = {form.name: form.kinds for form in forms}
        self._fewest = {form.name: [_lengths(ends) for ends in rests[form.name]] for form in forms}
        self._sides = {}
        for form in forms[1:]:
            self._sides[form.opener] = (form.name, "open")
            self._sides[form.closer] = (form.name, "close")
        self._plain = {token: True for token in tokens if token not in self._sides}
        self._first = Row(forms[0].name, 0, {kind: 0 for kind in forms[0].kinds}, None)

    def start(self):
        """The row in front of the first token."""
        return self._first

    def side(self, token):
        """The form of a bracket, and open or close; None for any other token."""
        return self._sides.get(token)

    def after(self, row, token):
        """The row behind one more token, any string, or None if no text goes on so."""
        if token in self._plain:
            return self._moved(row, token)
        if token not in self._sides:
            return None
        form, side = self._sides[token]
        if side == "open":
            return self._opened(row, form)
        return self._closed(row) if form == row.form else None

    def through(self, row, tokens):
        """The row behind all these tokens, or None if no text goes on so."""
        for token in tokens:
            row = self.after(row, token)
            if row is None:
                return None
        return row

    def ahead(self, row):
        """The tokens with which texts go on, in order; behind them the empty string if a text ends here."""
        found = [token for token in self._tokens if self.after(row, token) is not None]
        return tuple(found + [""]) if self.is_text(row) else tuple(found)

    def is_text(self, row):
        """Whether a text ends here."""
        return row.around is None and self.kind_at(row) is not None

    def kind_at(self, row):
        """The kind of the row if it ends here, or None."""
        return self._machines[row.form].ends[row.state]

    def role_at(self, row, symbol):
        """The role of a symbol with which the row goes on."""
        return self._machines[row.form].go(row.state, symbol)[0]

    def missing(self, row):
        """The fewest tokens up to the end of a text."""
        fewest = self._fewest[row.form][row.state]
        return min([many + row.behind[kind] for kind, many in fewest.items() if kind in row.behind])

    def _moved(self, row, symbol):
        """The row behind one more symbol of it, or None if no text goes on so."""
        step = self._machines[row.form].go(row.state, symbol)
        if step is None:
            return None
        for kind in self._fewest[row.form][step[1]]:
            if kind in row.behind:
                return Row(row.form, step[1], row.behind, row.around)
        return None

    def _opened(self, row, form):
        """The row at the beginning of a group of the form, or None if no text goes on so."""
        behind = {}
        for kind in self._kinds[form]:
            after = self._moved(row, kind)
            if after is not None:
                # The closer stands behind the row of the group, too.
                behind[kind] = self.missing(after) + 1
        return Row(form, 0, behind, row) if behind else None

    def _closed(self, row):
        """The row around the group that ends here, or None if it can't end here."""
        kind = self.kind_at(row)
        return self._moved(row.around, kind) if kind in row.behind else None


def _lengths(ends):
    """The kinds, each with the number of its tokens."""
    return {kind: len(tokens) for kind, tokens in ends.items()}
