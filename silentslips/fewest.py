"""The fewest slips, done together, that lead from one meaning to another."""

from silentslips.labels import Costs, Reach
from silentslips.pairs import CHANGE, NOWHERE, PAIR, is_listed, is_number
from silentslips.rules import slipped_at

# For more slips no text is told.
MOST_TOLD = 20


def fewest(book, slips):
    """The fewest slips of a set of rules."""
    return Fewest(Reach(book, slips))


class Fewest:
    """How many slips lead to another meaning, with a text and the slips; and the labels that show it."""

    def __init__(self, reach):
        costs = Costs(reach)
        pairs = costs.entries(PAIR)
        changes = costs.entries(CHANGE)
        self.labels = tuple([(*pair, costs.worth_of(pair)[0]) for pair in pairs])
        self.prices = tuple([(*change, costs.worth_of(change)[0]) for change in changes])
        whole = reach.book.form_named(reach.book.forms[0])
        others = [(costs.worth_of(change), change) for change in changes if change[0] in whole and not change[2]]
        self.number = min(others)[0][0] if others else None
        self.text = ""
        self.steps = ()
        self.slipped = ""
        if self.number is not None and self.number <= MOST_TOLD:
            row, steps = _told(reach, costs, min(others)[1])
            self.text = reach.letters.told(row)
            self.steps = tuple([(str(rule), place) for rule, place in steps])
            self.slipped = slipped_at(self.text, steps)

    def __bool__(self):
        return self.number is not None


def are_labels(book, slips, labels, prices):
    """Whether labels and prices are some, and hold."""
    reach = Reach(book, slips)
    if not is_listed(labels) or not all([_is_label(reach, label) for label in labels]):
        return False
    if not is_listed(prices) or not all([_is_price(reach, price) for price in prices]):
        return False
    costs = {label[:PAIR]: label[PAIR] for label in labels}
    dues = {price[:CHANGE]: price[CHANGE] for price in prices}
    if len(costs) < len(labels) or len(dues) < len(prices):
        return False
    if any([costs.get((form, 0, 0, True)) != 0 for form in book.forms]):
        return False
    changes = {}
    for price in prices:
        changes.setdefault(price[0], []).append(price)
    return all([_holds(reach, costs, dues, changes, pair) for pair in costs])


def _told(reach, costs, change):
    """The letters of an original text or group that changes so, and the slips in it: (rule, place)."""
    trail = []
    pair = costs.found[change][1]
    form = pair[0]
    while costs.found[pair][1] is not None:
        trail.append(costs.found[pair][1])
        pair = trail[-1][0]
    row = reach.letters.opening(form)
    steps = []
    for _, letters, rule, group in trail[::-1]:
        if rule is not None:
            steps.append((rule, len(row)))
        if group is not None:
            letters, inner = _told(reach, costs, group)
            steps.extend([(other, len(row) + place) for other, place in inner])
        row = row + letters
    return row + reach.letters.closing(form), steps


def _holds(reach, costs, dues, changes, pair):
    """Whether no label and no price that a label leads to costs too much."""
    cost = costs[pair]
    for after, _, rule in reach.onward(pair):
        if not _at_most(costs, after, cost if rule is None else cost + 1):
            return False
    form, state, _, _ = pair
    for lead in reach.pairs.leads[form][state]:
        for price in changes.get(lead[0], []):
            after = reach.grouped(pair, lead, price[:CHANGE])
            if after is not None and not _at_most(costs, after, cost + price[CHANGE]):
                return False
    change = reach.ended(pair)
    return change is None or _at_most(dues, change, cost)


def _at_most(costs, key, most):
    """Whether a cost is given and not greater."""
    return key in costs and costs[key] <= most


def _is_label(reach, x):
    """Whether any value is a label."""
    if not isinstance(x, tuple) or len(x) != PAIR + 1:
        return False
    return reach.pairs.is_pair(x[:PAIR]) and x[2] != NOWHERE and is_number(x[PAIR]) and x[PAIR] >= 0


def _is_price(reach, x):
    """Whether any value is a price; it may say True beside two kinds."""
    if not isinstance(x, tuple) or len(x) != CHANGE + 1:
        return False
    kind, after, alike, cost = x
    if not (isinstance(alike, bool) and after != "" and is_number(cost) and cost >= 0):
        return False
    return reach.pairs.is_change((kind, after, False))
