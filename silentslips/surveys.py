"""Surveys: which fates the slips of a set of rules have in a book, each with the least text."""

from heapq import heappop, heappush

from silentslips.letters import keep_least
from silentslips.paths import Paths
from silentslips.reading import tokens_of
from silentslips.rules import Slips, Taken, rule_of
from silentslips.sites import cases_of
from silentslips.tables import FATES, fate_of

# How wide the first columns of a page are.
RULE_WIDTH = 18
SPOTS_WIDTH = 30
FATE_WIDTH = 8
COUNT_WIDTH = 3


def survey(book, slips):
    """The survey of a book for a set of rules."""
    paths = Paths(book)
    found = []
    for rule in slips.rules:
        found.extend(_found_for(paths, rule))
    return Survey([row for row, _ in found], [worth for _, worth in found])


class Survey:
    """A row (rule, spots, fate, text, place) for each case of the rules and each fate that its slips have.

    What tells the least of several rows is their worth: (length, letters, place).
    """

    def __init__(self, rows, worths):
        self.rows = tuple(rows)
        self._worths = tuple(worths)

    def __len__(self):
        return len(self.rows)

    def __bool__(self):
        return not any([row[2] == "other" for row in self.rows])

    def fates_of(self, rule, spots=None):
        """The fates of a rule, or those of one case of it."""
        found = [row[2] for row, _ in self._about(rule, spots)]
        return tuple([fate for fate in FATES if fate in found])

    def least(self, rule, fate, *, spots=None):
        """(text, place) of the least slip of a rule, or of one case of it, with this fate; None if there is none."""
        found = [(worth, row[3], row[4]) for row, worth in self._about(rule, spots) if row[2] == fate]
        if not found:
            return None
        _, text, place = min(found)
        return text, place

    def silent(self):
        """The silent rules."""
        return Slips.of([rule_of(row[0]) for row in self.rows if row[2] == "other"])

    def page(self):
        """A line for each row."""
        return [_line(row) for row in self.rows]

    def _about(self, rule, spots):
        """The rows of a rule, those of these spots alone unless they are None; each with its worth."""
        found = [(row, worth) for row, worth in zip(self.rows, self._worths) if row[0] == str(rule)]
        return [(row, worth) for row, worth in found if spots is None or row[1] == spots]


def lookalikes(book):
    """The pairs of plain tokens one of which can silently be taken for the other one."""
    plain = book.words + book.signs
    rules = [Taken(one, other) for one in plain for other in plain if one != other]
    silent = survey(book, Slips.of(rules)).silent()
    pairs = [(one, other) for at, one in enumerate(plain) for other in plain[at + 1:]]
    return [(one, other) for one, other in pairs if Taken(one, other) in silent or Taken(other, one) in silent]


def first_silent(book, slips):
    """(rule, text, place) of the first silent rule of a set, with its least text and place; None if there is none."""
    paths = Paths(book)
    for rule in slips.rules:
        found = _found_for(paths, rule)
        least = Survey([row for row, _ in found], [worth for _, worth in found]).least(rule, "other")
        if least is not None:
            return str(rule), least[0], least[1]
    return None


def _line(row):
    """The line of a row."""
    rule, spots, fate, text, _ = row
    told = " + ".join([f"{form}.{role}" for form, role in spots])
    many = str(len(tokens_of(text))).rjust(COUNT_WIDTH)
    return f"{rule.ljust(RULE_WIDTH)}{told.ljust(SPOTS_WIDTH)}{fate.ljust(FATE_WIDTH)}{many}  {text}"


def _found_for(paths, rule):
    """The rows of a rule, each with its worth."""
    cases = cases_of(paths, rule)
    found = []
    for spots in sorted(cases):
        leasts = _leasts(paths, cases[spots])
        for fate in FATES:
            if fate in leasts:
                length, letters, place = leasts[fate]
                row = (str(rule), spots, fate, paths.letters.told(letters), place)
                found.append((row, (length, letters, place)))
    return found


def _leasts(paths, starts):
    """The fates of a case, each with (length, letters, place) of the least text, from its direct pairs."""
    whole = paths.book.form_named(paths.book.forms[0])
    queue = []
    _push_rows(paths, queue, starts)
    met = {}
    leasts = {}
    while queue and len(leasts) < len(FATES):
        length, letters, place, change = heappop(queue)
        if change in met:
            continue
        met[change] = True
        if change[0] in whole:
            leasts.setdefault(fate_of(change), (length, letters, place))
            continue
        around = {}
        for form, state, pair in paths.pairs.lifted(change):
            front = paths.front(form, state)
            keep_least(around, pair, front + letters, len(front) + place)
        _push_rows(paths, queue, around)
    return leasts


def _push_rows(paths, queue, starts):
    """Puts the changes that come up behind pairs on the queue: each with the least row, and its brackets if any."""
    for pair, (_, letters, place) in starts.items():
        form = pair[0]
        inside = len(paths.letters.opening(form))
        for change, rest in paths.endings(pair).items():
            group = paths.letters.wrapped(form, letters + rest)
            heappush(queue, (len(group), group, inside + place, change))
