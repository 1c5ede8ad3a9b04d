"""Points 31 and 32 sentence by sentence, and slip by slip in short texts; slowly.

Rules are tuples of their word and their tokens here.
"""

from itertools import combinations

from tests.told_books import slipped
from tests.told_cases import ToldCases


class ToldLabels:
    def __init__(self, book, rules):
        self.book, self.rules = book, rules
        self.cases = ToldCases(book)

    def kept(self, rule):
        """Whether the rule keeps the words."""
        sorts = [self.cases.sort(token) for token in rule[1:]]
        if rule[0] == "swapped":
            return all(sort in ("word", "sign") for sort in sorts) and sorts != ["word", "word"]
        return all(sort == "sign" for sort in sorts)

    def symbol_steps(self, form, p, q, alike):
        machine = self.book.machine(form)
        for _, symbol, role, n in [step for step in machine.steps if step[0] == p]:
            step = machine.go(q, symbol)
            if step:
                yield (form, n, step[1], alike and (symbol in self.book.signs or role == step[0])), 0

    def slip_steps(self, form, p, q, alike):
        for word, a, *b in self.rules:
            before, behind = {"out": ([a], []), "twice": ([a], [a, a]), "taken": ([a], b),
                              "swapped": ([a, *b], [*b, a])}[word]
            first, second = self.cases.go(form, p, before), self.cases.go(form, q, behind)
            if first is None or second is None:
                continue
            still = alike
            for token in before if word == "swapped" else []:
                if token in self.book.words:
                    still = still and first[0][before.index(token)] == second[0][behind.index(token)]
            yield (form, first[1], second[1], still), 1

    def price_steps(self, form, p, q, alike, prices):
        machine = self.book.machine(form)
        for (kind, after, similar), more in prices.items():
            first, second = machine.go(p, kind), machine.go(q, after)
            if first and second and kind not in self.cases.kinds("whole"):
                yield (form, first[1], second[1], alike and similar and first[0] == second[0]), more

    def end(self, form, p, q, alike):
        ends = self.book.machine(form).ends
        if ends[p] is not None and ends[q] is not None:
            yield (ends[p], ends[q], alike and ends[p] == ends[q])

    def dues(self, label, cost, prices):
        """What a label leads to, with the greatest costs that hold: labels, and a price."""
        labels = {}
        for steps in (self.symbol_steps(*label), self.slip_steps(*label), self.price_steps(*label, prices)):
            for after, more in steps:
                labels[after] = min(cost + more, labels.get(after, cost + more))
        return labels, {change: cost for change in self.end(*label)}

    def exact(self):
        """The exact labels and prices, by rounds that lower the costs until nothing changes."""
        labels = {(form, 0, 0, True): 0 for form in self.book.forms}
        prices = {}
        changed = True
        while changed:
            changed = False
            for label, cost in list(labels.items()):
                more, ended = self.dues(label, cost, prices)
                for found, kept in ((more, labels), (ended, prices)):
                    for key, worth in found.items():
                        if worth < kept.get(key, worth + 1):
                            kept[key] = worth
                            changed = True
        return labels, prices

    def hold(self, labels, prices):
        """Whether labels and prices, as dicts, hold."""
        if any(labels.get((form, 0, 0, True)) != 0 for form in self.book.forms):
            return False
        for label, cost in labels.items():
            more, ended = self.dues(label, cost, prices)
            for found, kept in ((more, labels), (ended, prices)):
                if any(key not in kept or kept[key] > worth for key, worth in found.items()):
                    return False
        return True


def together(text, steps):
    """The tokens behind slips that are done together, or None where two of them share a token."""
    tokens = text.split()
    written = {}
    for rule, place in steps:
        wide = 2 if rule[0] == "swapped" else 1
        behind = slipped(rule, tuple(tokens), place)
        if behind is None or any(at in written for at in range(place, place + wide)):
            return None
        written[place] = behind[place:len(behind) - (len(tokens) - place - wide)]
        for at in range(place + 1, place + wide):
            written[at] = ()
    return [token for at, own in enumerate(tokens) for token in written.get(at, (own,))]


def fewest_in(texts, rules, most):
    """The fewest slips, at most so many, that lead from one of the texts to another one with another meaning.

    texts is a dict of texts with their meanings; only what leads to one of them is found.
    """
    for number in range(1, most + 1):
        for text, meaning in texts.items():
            tokens = tuple(text.split())
            every = [(rule, place) for rule in rules for place in range(len(tokens)) if slipped(rule, tokens, place)
                     is not None]
            for steps in combinations(every, number):
                behind = together(text, steps)
                if behind is not None and texts.get(" ".join(behind), meaning) != meaning:
                    return number
    return None
