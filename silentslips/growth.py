"""Growth: pairs and changes that grow out of each other, each with its least worth."""

from heapq import heappop, heappush

from silentslips.pairs import CHANGE


class Growth:
    """Takes pairs and changes by their worth, the least one first; a class below it tells what grows out of them.

    Whatever grows out of something is worth more, or as much.

    - found: for each pair and change that comes up (worth, source); what the source is the class below tells
    """

    def __init__(self, pairs):
        self.pairs = pairs
        self.found = {}
        self._queue = []
        self._count = 0
        # By the kinds: the changes of groups, and the pairs in front of groups, each with what leads on.
        self._changes = {}
        self._waiting = {}

    def offer(self, entry, worth, source):
        """Keeps a pair or a change until it is its turn."""
        if entry not in self.found:
            # The count tells equally good ones apart, so nothing behind it is ever compared.
            self._count += 1
            heappush(self._queue, (worth, self._count, entry, source))

    def grow(self):
        """Takes everything that comes up."""
        while self._queue:
            worth, _, entry, source = heappop(self._queue)
            if entry in self.found:
                continue
            self.found[entry] = (worth, source)
            if len(entry) == CHANGE:
                self._take_change(entry)
            else:
                self._take_pair(entry)

    def worth_of(self, entry):
        """The worth of a pair or a change that was taken."""
        return self.found[entry][0]

    def entries(self, many):
        """The pairs or the changes that were taken: tuples of so many parts, ascending."""
        return sorted([entry for entry in self.found if len(entry) == many])

    def spread(self, pair):
        """Offers what a pair alone leads to."""

    def combine(self, pair, lead, change):
        """Offers what a pair and a change of a group behind it lead to."""

    def _take_change(self, change):
        self._changes.setdefault(change[0], []).append(change)
        for pair, lead in self._waiting.get(change[0], []):
            self.combine(pair, lead, change)

    def _take_pair(self, pair):
        self.spread(pair)
        form, state, _, _ = pair
        for lead in self.pairs.leads[form][state]:
            if self.pairs.is_group(lead[0]):
                self._waiting.setdefault(lead[0], []).append((pair, lead))
                for change in self._changes.get(lead[0], []):
                    self.combine(pair, lead, change)
