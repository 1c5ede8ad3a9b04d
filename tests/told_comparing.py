"""Points 33 to 36 sentence by sentence, for two Books; slowly. And told books that differ a little."""

from tests.told import any_told
from tests.told_books import ROLES, ToldBook


class ToldComparison:
    def __init__(self, one, other):
        self.one, self.other = one, other
        self.brackets = {self.pair_of(other, name): name for name in other.forms}

    def pair_of(self, book, name):
        form = book.form_named(name)
        return (form.opener, form.closer)

    def partner(self, form):
        return self.brackets.get(self.pair_of(self.one, form))

    def go(self, form, q, symbol):
        return None if q == -1 or symbol == "" else self.other.machine(self.partner(form)).go(q, symbol)

    def beginnings(self):
        return {(form, 0, -1, False) if self.partner(form) is None else (form, 0, 0, True) for form in self.one.forms}

    def steps(self, form, p):
        return [(symbol, role, n) for state, symbol, role, n in self.one.machine(form).steps if state == p]

    def led(self, entries):
        """What the sentences say is there if these entries are."""
        plain = self.other.words + self.other.signs
        for form, p, q, alike in [entry for entry in entries if len(entry) == 4]:
            for symbol, role, n in self.steps(form, p):
                if symbol in self.one.words + self.one.signs:
                    step = self.go(form, q, symbol) if symbol in plain else None
                    both_signs = symbol in self.one.signs and symbol in self.other.signs
                    both_words = symbol in self.one.words and symbol in self.other.words
                    still = alike and step is not None and (both_signs or (both_words and step[0] == role))
                    yield form, n, step[1] if step else -1, still
            for kind, after, similar in [entry for entry in entries if len(entry) == 3]:
                for _, role, n in [step for step in self.steps(form, p) if step[0] == kind]:
                    step = self.go(form, q, after)
                    still = alike and similar and step is not None and step[0] == role
                    yield form, n, step[1] if step else -1, still
            kind = self.one.machine(form).ends[p]
            if kind is not None:
                after = "" if q == -1 else self.other.machine(self.partner(form)).ends[q] or ""
                yield kind, after, alike and kind == after

    def exact(self):
        found = self.beginnings()
        while True:
            more = set(self.led(found)) - found
            if not more:
                return found
            found |= more

    def fulfils(self, entries):
        return self.beginnings() <= entries and all(entry in entries for entry in self.led(entries))


class ToldLoss:
    def __init__(self, book, other):
        self.book, self.other = book, other

    def form(self, kind):
        """The other book's form that has the kind, or None."""
        if kind not in self.other.kinds:
            return None
        form = self.other.form_of(kind)
        return form if (form == "whole") == (self.book.form_of(kind) == "whole") else None

    def closed(self, form, states):
        found = set(states)
        while True:
            more = {n for p, symbol, _, n in self.other.machine(form).steps if p in found and symbol in self.other.signs}
            if more <= found:
                return tuple(sorted(found))
            found |= more

    def beginnings(self):
        return {(kind, 0, self.closed(self.form(kind), {0}) if self.form(kind) else ()) for kind in self.book.kinds}

    def led(self, row):
        kind, p, states = row
        machine = self.book.machine(self.book.form_of(kind))
        groups = [name for name in self.other.kinds if self.other.form_of(name) != "whole"]
        for _, symbol, role, n in [step for step in machine.steps if step[0] == p and kind in machine.reach(step[3])]:
            if symbol in self.book.signs:
                yield kind, n, states
                continue
            known = self.other.words if symbol in self.book.words else groups
            if not states or symbol not in known:
                yield kind, n, ()
                continue
            steps = [self.other.machine(self.form(kind)).go(state, symbol) for state in states]
            yield kind, n, self.closed(self.form(kind), {step[1] for step in steps if step and step[0] == role})

    def exact(self):
        found = self.beginnings()
        while True:
            more = {after for row in found for after in self.led(row)} - found
            if not more:
                return found
            found |= more

    def fulfils(self, rows):
        return self.beginnings() <= rows and all(after in rows for row in rows for after in self.led(row))


def near(told, random):
    """A told book that differs a little from this one; it may be none that is allowed."""
    words, signs = list(told.words), list(told.signs)
    forms = [(name, opener, closer, list(pairs)) for name, opener, closer, pairs in told.forms]
    pairs = random.choice(forms)[3]
    at = random.randrange(len(pairs))
    steps = [(symbol, role) for symbol in words + signs + [kind for form in forms[1:] for kind, _ in form[3]]
             for role in ROLES]
    way = random.randrange(8)
    if way == 0 and steps:
        pairs[at] = (pairs[at][0], any_told(random, steps, random.randint(1, 6)))
    elif way == 1 and (words or signs):
        source, target = (words, signs) if words else (signs, words)
        target.append(source.pop())
    elif way == 2:
        forms = [(name if name == "whole" else name + "er", *rest) for name, *rest in forms]
    elif way == 3:
        forms = [(name, opener.replace("(", "<"), closer, own) for name, opener, closer, own in forms]
    elif way == 4:
        pairs[:] = [(kind, pairs[1 - number][1] if len(pairs) == 2 else own) for number, (kind, own) in enumerate(pairs)]
    elif way == 5:
        signs.append("!")
        pairs[at] = (pairs[at][0], ("+", pairs[at][1], ("-", ("one", "!", "r"))))
    elif way == 6:
        random.shuffle(words)
        forms = forms[:1] + forms[:0:-1]
    elif steps:
        pairs[at] = (pairs[at][0], ("|", pairs[at][1], any_told(random, steps, 2)))
    return ToldBook(words, signs, forms)


def near_books(random, books):
    """For each pair of a told book and its Book another such pair that differs a little."""
    for told, book in books:
        for _ in range(8):
            other = near(told, random)
            try:
                yield told, book, other, other.book()
                break
            except ValueError:
                continue
