"""Points 23, 26, 27, 28 and 32 sentence by sentence, for a Book, with the crossings of 25; slowly.

Rules are tuples of their word and their tokens here.
"""

from silentslips.crossings import gained, joined, shed, split


class ToldCases:
    def __init__(self, book):
        self.book = book
        self.sides = {}
        for name in book.forms[1:]:
            form = book.form_named(name)
            self.sides[form.opener] = (name, "open")
            self.sides[form.closer] = (name, "close")
        self.states = [(form, state) for form in book.forms for state in range(len(book.machine(form)))]

    def kinds(self, form):
        return self.book.form_named(form).kinds

    def go(self, form, state, symbols):
        """(roles, state) behind symbols, or None."""
        roles = []
        for symbol in symbols:
            step = self.book.machine(form).go(state, symbol)
            if step is None:
                return None
            roles.append(step[0])
            state = step[1]
        return roles, state

    def other(self, form, state, symbols):
        told = self.go(form, state, symbols)
        return -1 if told is None else told[1]

    def role(self, form, state, symbols, at):
        told = self.go(form, state, symbols)
        return None if told is None else told[0][at]

    def sort(self, token):
        if token in self.book.words:
            return "word"
        if token in self.book.signs:
            return "sign"
        return self.sides[token][1] if token in self.sides else "none"

    def direct(self, rule):
        """A dict with the set of the direct pairs for the spots of each case."""
        self.found = {}
        word, tokens = rule[0], rule[1:]
        sorts = ["plain" if self.sort(token) in ("word", "sign") else self.sort(token) for token in tokens]
        if sorts[0] == "none" or (word == "swapped" and sorts[1] == "none"):
            return {}
        if word != "swapped":
            if sorts[0] == "plain":
                self.plain(word, tokens, sorts)
            else:
                self.bracket(tokens[0])
        elif sorts == ["plain", "plain"]:
            self.two_plain(*tokens)
        elif "plain" in sorts:
            self.plain_and_bracket(tokens, sorts)
        else:
            self.two_brackets([self.sides[token] for token in tokens])
        return self.found

    def add(self, spots, form, state, other, alike):
        self.found.setdefault(tuple(spots), set()).add((form, state, other, alike and other != -1))

    def plain(self, word, tokens, sorts):
        a, b = tokens[0], tokens[-1]
        for form, p in self.states:
            step = self.go(form, p, [a])
            if step is None:
                continue
            (role,), n = step
            alike = self.sort(a) == self.sort(b) == "sign"
            if word == "taken" and sorts[1] != "plain":
                self.add([(form, role)], form, n, -1, False)
            else:
                behind = {"out": [], "twice": [a, a], "taken": [b]}[word]
                self.add([(form, role)], form, n, self.other(form, p, behind), alike)

    def bracket(self, token):
        for form, p in self.states:
            for kind in self.kinds(self.sides[token][0]):
                if self.go(form, p, [kind]):
                    self.add([self.sides[token]], form, self.other(form, p, [kind]), -1, False)

    def two_plain(self, a, b):
        for form, p in self.states:
            step = self.go(form, p, [a, b])
            if step is None:
                continue
            (first, second), m = step
            sorts = [self.sort(a), self.sort(b)]
            alike = sorts == ["sign", "sign"]
            if sorts == ["word", "sign"]:
                alike = self.role(form, p, [b, a], 1) == first
            if sorts == ["sign", "word"]:
                alike = self.role(form, p, [b, a], 0) == second
            self.add([(form, first), (form, second)], form, m, self.other(form, p, [b, a]), alike)

    def plain_and_bracket(self, tokens, sorts):
        x = tokens[sorts.index("plain")]
        spot = self.sides[tokens[1 - sorts.index("plain")]]
        around = {("plain", "open"): self.into_front, ("open", "plain"): self.from_front,
                  ("plain", "close"): self.from_back, ("close", "plain"): self.into_back}[tuple(sorts)]
        for form, p in self.states:
            around(form, p, x, spot)

    def group_role(self, form, p, symbols, at, after):
        """The role of the group behind the slip; nothing if it has no kind."""
        return self.role(form, p, symbols, at) if after else None

    def into_front(self, form, p, x, spot):
        for kind, after, alike in gained(self.book, spot[0], x):
            step = self.go(form, p, [x, kind])
            if step:
                other = self.other(form, p, [after]) if after else -1
                still = alike and step[0][1] == self.group_role(form, p, [after], 0, after)
                self.add([(form, step[0][0]), spot], form, step[1], other, still)

    def from_front(self, form, p, x, spot):
        first = self.go(spot[0], 0, [x])
        for kind, after, alike in shed(self.book, spot[0], x, first[0][0]) if first else []:
            step = self.go(form, p, [kind])
            if step:
                other = self.other(form, p, [x, after]) if after else -1
                still = alike and step[0][0] == self.group_role(form, p, [x, after], 1, after)
                self.add([spot, (spot[0], first[0][0])], form, step[1], other, still)

    def from_back(self, form, p, x, spot):
        roles = {role for _, symbol, role, _ in self.book.machine(spot[0]).steps if symbol == x}
        for role in roles:
            for kind, after, alike in shed(self.book, spot[0], x, role, back=True):
                step = self.go(form, p, [kind])
                if step:
                    other = self.other(form, p, [after, x]) if after else -1
                    still = alike and step[0][0] == self.group_role(form, p, [after], 0, after)
                    self.add([(spot[0], role), spot], form, step[1], other, still)

    def into_back(self, form, p, x, spot):
        for kind, after, alike in gained(self.book, spot[0], x, back=True):
            step = self.go(form, p, [kind, x])
            if step:
                other = self.other(form, p, [after]) if after else -1
                still = alike and step[0][0] == self.group_role(form, p, [after], 0, after)
                self.add([spot, (form, step[0][1])], form, step[1], other, still)

    def two_brackets(self, spots):
        (g, one_side), (h, other_side) = spots
        for form, p in self.states:
            if (one_side, other_side) == ("close", "open") and g == h:
                for first, second, after in joined(self.book, g):
                    if self.go(form, p, [first, second]):
                        m = self.other(form, p, [first, second])
                        self.add(spots, form, m, self.other(form, p, [after]) if after else -1, False)
            elif (one_side, other_side) == ("close", "open"):
                for first in self.kinds(g):
                    for second in self.kinds(h):
                        if self.go(form, p, [first, second]):
                            self.add(spots, form, self.other(form, p, [first, second]), -1, False)
            elif (one_side, other_side) == ("open", "close") and g == h:
                self.empty_group(spots, g, form, p)
            elif one_side == other_side and g != h:
                for kind in self.edge_kinds(g, h, one_side):
                    if self.go(form, p, [kind]):
                        self.add(spots, form, self.other(form, p, [kind]), -1, False)

    def empty_group(self, spots, g, form, p):
        empty = self.book.machine(g).ends[0]
        if empty and form != g and self.go(form, p, [empty]):
            self.add(spots, form, self.other(form, p, [empty]), -1, False)
        for kind, first, last in split(self.book, g):
            if self.go(form, p, [kind]):
                other = self.other(form, p, [first, last]) if first and last else -1
                self.add(spots, form, self.other(form, p, [kind]), other, False)

    def edge_kinds(self, g, h, side):
        """The kinds of G whose rows begin with a group of H, or those of H whose rows end with a group of G."""
        if side == "open":
            after = [self.other(g, 0, [kind]) for kind in self.kinds(h)]
            return {kind for state in after if state != -1 for kind in self.book.machine(g).reach(state)}
        machine = self.book.machine(h)
        return {machine.ends[n] for _, symbol, _, n in machine.steps if symbol in self.kinds(g)} - {None}

    def led(self, entry):
        """What a closed set contains beside a pair or a change, by point 28."""
        book = self.book
        if len(entry) == 3:
            kind, after, alike = entry
            for form, p in self.states:
                step = self.go(form, p, [kind]) if kind not in self.kinds("whole") else None
                if step:
                    yield form, step[1], self.other(form, p, [after]) if after else -1, alike
            return
        form, p, q, alike = entry
        for _, symbol, role, n in [step for step in book.machine(form).steps if step[0] == p]:
            step = None if q == -1 else book.machine(form).go(q, symbol)
            if step is None:
                yield form, n, -1, False
            else:
                yield form, n, step[1], alike and (symbol in book.signs or role == step[0])
        kind = book.machine(form).ends[p]
        if kind is not None:
            after = "" if q == -1 else book.machine(form).ends[q] or ""
            yield kind, after, alike and kind == after

    def closure(self, entries):
        """The smallest closed set with these entries, by rounds."""
        found = set(entries)
        while True:
            more = {after for entry in found for after in self.led(entry)} - found
            if not more:
                return found
            found |= more

    def is_closed(self, entries):
        return all(after in entries for entry in entries for after in self.led(entry))


def fates(book, entries):
    """The fates that the changes of the kinds of the whole form tell."""
    whole = book.form_named("whole")
    met = {"refused" if entry[1] == "" else "same" if entry[2] else "other"
           for entry in entries if len(entry) == 3 and entry[0] in whole}
    return tuple(fate for fate in ("refused", "same", "other") if fate in met)
