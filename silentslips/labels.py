"""Labels: how many slips, done together, lead to a pair or a change."""

from silentslips.errors import BadRule
from silentslips.growth import Growth
from silentslips.letters import Letters
from silentslips.pairs import NOWHERE, Pairs
from silentslips.shifts import plain_shift, shifted


class Reach:
    """Where the labels of a book lead with the rules of a set."""

    def __init__(self, book, slips):
        for rule in slips.rules:
            if not rule.keeps_words(book):
                raise BadRule(str(rule))
        self.book = book
        self.letters = Letters(book)
        self.pairs = Pairs(book, book)
        # By the first symbol in the original text: the rules, each with its shift.
        self._shifts = {}
        for rule in slips.rules:
            self._shifts.setdefault(rule.removed[0], []).append((rule, plain_shift(book, rule)))

    def onward(self, pair):
        """What a symbol or a slip leads to: (pair behind it, letters of the original text, rule or None)."""
        form, state, _, _ = pair
        found = [(after, self.letters.symbols[symbol], None) for symbol, after in self.pairs.moved(pair)]
        machine = self.book.machine(form)
        for symbol, _, _ in self.pairs.leads[form][state]:
            for rule, shift in self._shifts.get(symbol, []):
                told = shifted(machine, pair, shift)
                if told is not None:
                    found.append((told[1], self.letters.row_of(rule.removed), rule))
        return [(after, row, rule) for after, row, rule in found if after[2] != NOWHERE]

    def grouped(self, pair, lead, price):
        """The pair behind a group that changes so, or None."""
        after = self.pairs.by_group(pair, lead, price)
        return None if after[2] == NOWHERE else after

    def ended(self, pair):
        """The change where both rows end, or None if one of them can't end."""
        change = self.pairs.ended(pair)
        return None if change is None or change[1] == "" else change


class Costs(Growth):
    """The exact labels and prices of a book and a set of rules.

    The worth of a pair or a change is (cost, length): of all ways with the fewest slips the shortest one is taken.
    The source of a pair is (pair ahead, letters, rule or None, change of a group or None), that of a change its pair.
    """

    def __init__(self, reach):
        Growth.__init__(self, reach.pairs)
        self._reach = reach
        for form in reach.book.forms:
            self.offer((form, 0, 0, True), (0, 0), None)
        self.grow()

    def spread(self, pair):
        cost, length = self.worth_of(pair)
        for after, row, rule in self._reach.onward(pair):
            more = 0 if rule is None else 1
            self.offer(after, (cost + more, length + len(row)), (pair, row, rule, None))
        change = self._reach.ended(pair)
        if change is not None:
            brackets = len(self._reach.letters.wrapped(pair[0], ""))
            self.offer(change, (cost, length + brackets), pair)

    def combine(self, pair, lead, change):
        after = self._reach.grouped(pair, lead, change)
        if after is not None:
            cost, length = self.worth_of(pair)
            more, longer = self.worth_of(change)
            self.offer(after, (cost + more, length + longer), (pair, "", None, change))
