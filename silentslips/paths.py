"""Least rows of a book: up to a state, from a pair on, and of symbols; all of them in letters."""

from heapq import heappop, heappush

from silentslips.letters import Letters
from silentslips.pairs import NOWHERE, Pairs


class Paths:
    """The least rows of a book.

    - book, letters, pairs: the book, its letters, and where its pairs and changes lead
    """

    def __init__(self, book):
        self.book = book
        self.letters = Letters(book)
        self.pairs = Pairs(book, book)
        self._fronts = {form: self._fronts_of(form) for form in book.forms}
        self._endings = {}

    def front(self, form, state):
        """The least tokens from the beginning of a row to a state."""
        return self._fronts[form][state]

    def end(self, form, state, kind):
        """The least tokens from a state to the end of a row of the kind."""
        return self.endings((form, state, NOWHERE, False))[(kind, "", False)]

    def group(self, kind):
        """The least group of a kind."""
        return self.letters.symbols[kind]

    def endings(self, pair):
        """The changes that can come up where rows end behind a pair, each with the least tokens up to there."""
        if pair not in self._endings:
            self._explore(pair)
        return self._endings[pair]

    def _fronts_of(self, form):
        """For each state of a form the least tokens that lead to it."""
        leads = self.pairs.leads[form]
        fronts = {}
        queue = [(0, "", 0)]
        while queue:
            many, row, state = heappop(queue)
            if state in fronts:
                continue
            fronts[state] = row
            for symbol, _, after in leads[state]:
                more = self.letters.symbols[symbol]
                heappush(queue, (many + len(more), row + more, after))
        return fronts

    def _explore(self, start):
        """Works out the endings of a pair, and of all pairs behind it that have none yet."""
        todo = [start]
        # For each of these pairs: the pairs in front of it, each with the tokens between.
        sources = {start: []}
        queue = []
        while todo:
            pair = todo.pop()
            change = self.pairs.ended(pair)
            if change is not None:
                heappush(queue, (0, "", pair, change))
            for symbol, after in self.pairs.moved(pair):
                more = self.letters.symbols[symbol]
                if after in self._endings:
                    for ending, row in self._endings[after].items():
                        heappush(queue, (len(more + row), more + row, pair, ending))
                    continue
                if after not in sources:
                    sources[after] = []
                    todo.append(after)
                sources[after].append((more, pair))
        self._settle(queue, sources)

    def _settle(self, queue, sources):
        """Takes the least endings first, and goes back from each to the pairs in front."""
        for pair in sources:
            self._endings[pair] = {}
        while queue:
            many, row, pair, change = heappop(queue)
            if change in self._endings[pair]:
                continue
            self._endings[pair][change] = row
            for more, before in sources[pair]:
                if change not in self._endings[before]:
                    heappush(queue, (many + len(more), more + row, before, change))
