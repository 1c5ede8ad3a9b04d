"""Sites: where slips of a rule happen, and the direct pairs that they lead to.

A site is a triple: the shift in a row, the least letters of the symbols before it, and the index there of the first
token that the rule is about.
"""

from silentslips.crossings import gained_pieces, joined_pieces, shed_pieces, split_pieces
from silentslips.letters import keep_least
from silentslips.pairs import side_of
from silentslips.shifts import Shift, plain_shift, shifted


def cases_of(paths, rule):
    """For the spots of each case of a rule: the direct pairs.

    Each pair has (length, letters, place) of the least beginning of a row that leads there by a slip at the place.
    """
    found = {}
    for shift, letters, at in _sites(paths, rule):
        for form, state, _, _ in paths.pairs.standing.get(shift.before[0], []):
            told = shifted(paths.book.machine(form), (form, state, state, True), shift)
            if told is not None and form != shift.barred:
                front = paths.front(form, state)
                pairs = found.setdefault(shift.spots_in(form, told[0]), {})
                keep_least(pairs, told[1], front + letters, len(front) + at)
    return found


def _sites(paths, rule):
    """The sites of a rule."""
    book = paths.book
    sides = tuple([side_of(book, token) for token in rule.tokens])
    if rule.word == "swapped":
        if sides not in SWAPPED:
            return []
        sites = SWAPPED[sides]
        return sites(paths, rule)
    if sides[0] == "none":
        return []
    if sides[0] != "plain":
        return _bracket_sites(paths, rule)
    letters = paths.letters.row_of(rule.removed)
    if sides[-1] == "plain":
        return [(plain_shift(book, rule), letters, 0)]
    return [(Shift(rule.removed, None, [0]), letters, 0)]


def _form_at(paths, token):
    """The name of the form of a bracket."""
    return paths.book.ways.side(token)[0]


def _kinds(paths, form):
    """The kinds of the form of this name."""
    return paths.book.form_named(form).kinds


def _bracket_sites(paths, rule):
    """Sites where a bracket is left out, doubled or replaced."""
    spot = paths.book.ways.side(rule.tokens[0])
    sites = []
    for kind in _kinds(paths, spot[0]):
        group = paths.group(kind)
        sites.append((Shift([kind], None, [spot]), group, 0 if spot[1] == "open" else len(group) - 1))
    return sites


def _plain_sites(paths, rule):
    """Sites where two plain tokens are exchanged."""
    return [(plain_shift(paths.book, rule), paths.letters.row_of(rule.removed), 0)]


def _into_front(paths, rule):
    """Sites where a token and an opener behind it are exchanged."""
    token, opener = rule.tokens
    form = _form_at(paths, opener)
    sites = []
    for (kind, after, alike), (_, letters, at) in gained_pieces(paths, form, token, False).items():
        shift = Shift([token, kind], [after], [0, (form, "open")], alike=alike, held=[(1, 0)])
        sites.append((shift, letters, at))
    return sites


def _into_back(paths, rule):
    """Sites where a closer and a token behind it are exchanged."""
    closer, token = rule.tokens
    form = _form_at(paths, closer)
    sites = []
    for (kind, after, alike), (_, letters, at) in gained_pieces(paths, form, token, True).items():
        shift = Shift([kind, token], [after], [(form, "close"), 1], alike=alike, held=[(0, 0)])
        sites.append((shift, letters, at))
    return sites


def _roles(paths, form, token):
    """The roles that a token has in rows of a form."""
    return sorted({role for name, _, role, _ in paths.pairs.standing[token] if name == form})


def _from_front(paths, rule):
    """Sites where an opener and a token behind it are exchanged."""
    opener, token = rule.tokens
    form = _form_at(paths, opener)
    sites = []
    for role in _roles(paths, form, token):
        spots = [(form, "open"), (form, role)]
        for (kind, after, alike), (_, letters, at) in shed_pieces(paths, form, token, role, False).items():
            sites.append((Shift([kind], [token, after], spots, alike=alike, held=[(0, 1)]), letters, at))
    return sites


def _from_back(paths, rule):
    """Sites where a token and a closer behind it are exchanged."""
    token, closer = rule.tokens
    form = _form_at(paths, closer)
    sites = []
    for role in _roles(paths, form, token):
        spots = [(form, role), (form, "close")]
        for (kind, after, alike), (_, letters, at) in shed_pieces(paths, form, token, role, True).items():
            sites.append((Shift([kind], [after, token], spots, alike=alike, held=[(0, 0)]), letters, at))
    return sites


def _between(paths, rule):
    """Sites where a closer and an opener behind it are exchanged."""
    spots = [paths.book.ways.side(token) for token in rule.tokens]
    form, other = spots[0][0], spots[1][0]
    sites = []
    if form == other:
        for (first, second, after), (_, letters, at) in joined_pieces(paths, form).items():
            sites.append((Shift([first, second], [after], spots), letters, at))
        return sites
    for first in _kinds(paths, form):
        group = paths.group(first)
        for second in _kinds(paths, other):
            sites.append((Shift([first, second], None, spots), group + paths.group(second), len(group) - 1))
    return sites


def _empty(paths, rule):
    """Sites where an opener and a closer behind it are exchanged."""
    spots = [paths.book.ways.side(token) for token in rule.tokens]
    form, other = spots[0][0], spots[1][0]
    kind = paths.book.machine(form).ends[0]
    if form != other or kind is None:
        return []
    sites = [(Shift([kind], None, spots, barred=form), paths.letters.wrapped(form, ""), 0)]
    for (around, first, last), (_, letters, at) in split_pieces(paths, form).items():
        sites.append((Shift([around], [first, last], spots), letters, at))
    return sites


def _openers(paths, rule):
    """Sites where the openers of two forms are exchanged."""
    spots = [paths.book.ways.side(token) for token in rule.tokens]
    form = spots[0][0]
    machine = paths.book.machine(form)
    found = {}
    for inner in _kinds(paths, spots[1][0]):
        step = machine.go(0, inner)
        if step is not None:
            for kind in machine.reach(step[1]):
                row = paths.group(inner) + paths.end(form, step[1], kind)
                keep_least(found, kind, paths.letters.wrapped(form, row), 0)
    return [(Shift([kind], None, spots), letters, at) for kind, (_, letters, at) in found.items()]


def _closers(paths, rule):
    """Sites where the closers of two forms are exchanged."""
    spots = [paths.book.ways.side(token) for token in rule.tokens]
    form = spots[1][0]
    ends = paths.book.machine(form).ends
    found = {}
    for inner in _kinds(paths, spots[0][0]):
        for name, state, _, after in paths.pairs.standing[inner]:
            if name == form and ends[after] is not None:
                row = paths.front(form, state) + paths.group(inner)
                # The closer of the inner group is the last token but one.
                keep_least(found, ends[after], paths.letters.wrapped(form, row), len(row))
    return [(Shift([kind], None, spots), letters, at) for kind, (_, letters, at) in found.items()]


SWAPPED = {
    ("plain", "plain"): _plain_sites,
    ("plain", "open"): _into_front,
    ("close", "plain"): _into_back,
    ("open", "plain"): _from_front,
    ("plain", "close"): _from_back,
    ("close", "open"): _between,
    ("open", "close"): _empty,
    ("open", "open"): _openers,
    ("close", "close"): _closers,
}
