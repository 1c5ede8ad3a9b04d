"""What the document says of slips, cases, tables and labels, worked out slowly: text by text, or sentence by sentence.

Rules are tuples of their word and their tokens here.
"""

from itertools import product

from tests.told import rows
from tests.told_books import slipped


def rule_texts(rules):
    return [" ".join(rule) for rule in rules]


def all_slips(told, rules, most):
    """All slips in the texts of at most so many tokens: (rule, text, place, spots, fate)."""
    texts = told.texts(most + 1)
    found = []
    for text, (tokens, meaning, spots, _) in texts.items():
        for rule, place in product(rules, range(len(tokens) if len(tokens) <= most else 0)):
            changed = slipped(rule, tokens, place)
            if changed is not None:
                after = texts.get(" ".join(changed))
                fate = "refused" if after is None else "same" if after[1] == meaning else "other"
                wide = 2 if rule[0] == "swapped" else 1
                found.append((" ".join(rule), text, place, spots[place:place + wide], fate))
    return found


def least_slips(slips):
    """For (rule, spots, fate) the least text and place of these slips, which come in the order of the texts."""
    found = {}
    for rule, text, place, spots, fate in slips:
        found.setdefault((rule, spots, fate), (text, place))
    return found


class ToldRows:
    """All rows of at most so many steps of the forms of a told book: their symbols, roles and kinds."""

    def __init__(self, told, most):
        self.words, self.signs = told.words, told.signs
        self.kinds = {}
        self.roles = {}
        for name, _, _, pairs in told.forms:
            for kind, pattern in pairs:
                for steps in rows(pattern, most):
                    symbols = tuple(symbol for symbol, _ in steps)
                    self.kinds[name, symbols] = kind
                    self.roles[name, symbols] = tuple(role for _, role in steps)
        self.rows = {}
        for name, symbols in self.kinds:
            self.rows.setdefault(name, []).append(symbols)

    def kind(self, form, symbols):
        return self.kinds.get((form, symbols), "")

    def parts(self, form, symbols):
        """The roles of the words and groups of a row."""
        return [role for symbol, role in zip(symbols, self.roles[form, symbols]) if symbol not in self.signs]

    def alike(self, form, token, row, more):
        """Whether a row and the same row with the token have the same kind and the same parts."""
        if token not in self.signs or not self.kind(form, row) or self.kind(form, row) != self.kind(form, more):
            return False
        return self.parts(form, row) == self.parts(form, more)

    def gained(self, form, token, back, most):
        found = set()
        for row in self.rows[form]:
            more = (*row, token) if back else (token, *row)
            if len(row) < most:
                found.add((self.kind(form, row), self.kind(form, more), self.alike(form, token, row, more)))
        return found

    def shed(self, form, token, role, back):
        found = set()
        for more in self.rows[form]:
            at = -1 if back else 0
            if more and more[at] == token and self.roles[form, more][at] == role:
                row = more[:-1] if back else more[1:]
                found.add((self.kind(form, more), self.kind(form, row), self.alike(form, token, row, more)))
        return found

    def joined(self, form, most):
        empty = self.kind(form, ())
        found = set()
        for v, w in product(self.rows[form], repeat=2):
            if len(v) + len(w) < most:
                after = self.kind(form, (*v, empty, *w)) if empty else ""
                found.add((self.kind(form, v), self.kind(form, w), after))
        return found

    def split(self, form):
        empty = self.kind(form, ())
        found = set()
        for row in self.rows[form]:
            for at, symbol in enumerate(row):
                if empty and symbol == empty:
                    found.add((self.kind(form, row), self.kind(form, row[:at]), self.kind(form, row[at + 1:])))
        return found
