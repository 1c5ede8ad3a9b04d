"""Crossings: what becomes of groups when one of their brackets is exchanged with the token beside it.

What comes up is found together with its pieces: the least tokens of a text in which it comes up, from the exchanged
token or the opener of the first group on, and the index there of the first one of the exchanged tokens.
"""

from silentslips.letters import keep_least
from silentslips.pairs import NOWHERE
from silentslips.paths import Paths


def gained(book, form, token, *, back=False):
    """What becomes of a group into which a token comes: (kind, after, alike)."""
    return sorted(gained_pieces(Paths(book), form, token, back))


def shed(book, form, token, role, *, back=False):
    """What becomes of a group which a token with this role leaves: (kind, after, alike)."""
    return sorted(shed_pieces(Paths(book), form, token, role, back))


def joined(book, form):
    """What becomes of two groups that are made one: (kind, kind, after)."""
    return sorted(joined_pieces(Paths(book), form))


def split(book, form):
    """What becomes of a group that is made two: (kind, first, last)."""
    return sorted(split_pieces(Paths(book), form))


def gained_pieces(paths, form, token, back):
    """What gained tells, each with (length, letters, index) of its least piece."""
    found = {}
    letter = paths.letters.symbols[token]
    if not back:
        for told, row in paths.endings(_longer(paths, form, 0, token)).items():
            keep_least(found, told, letter + paths.letters.wrapped(form, row), 0)
        return found
    for state in range(len(paths.book.machine(form))):
        told = paths.pairs.ended(_longer(paths, form, state, token))
        if told is not None:
            group = paths.letters.wrapped(form, paths.front(form, state))
            keep_least(found, told, group + letter, len(group) - 1)
    return found


def shed_pieces(paths, form, token, role, back):
    """What shed tells, each with (length, letters, index) of its least piece."""
    found = {}
    letter = paths.letters.symbols[token]
    sign = token in paths.book.signs
    for name, state, own, after in paths.pairs.standing[token]:
        pair = (form, after, state, sign)
        if (name, own) != (form, role):
            continue
        if not back and state == 0:
            for told, row in paths.endings(pair).items():
                keep_least(found, told, paths.letters.wrapped(form, letter + row), 0)
        told = paths.pairs.ended(pair)
        if back and told is not None:
            front = paths.front(form, state)
            keep_least(found, told, paths.letters.wrapped(form, front + letter), len(front) + 1)
    return found


def joined_pieces(paths, form):
    """What joined tells, each with (length, letters, index) of its least piece."""
    found = {}
    machine = paths.book.machine(form)
    for state, kind in enumerate(machine.ends):
        if kind is None:
            continue
        # Behind the first row stands the empty group, if there is one, and then the second row.
        step = None if machine.ends[0] is None else machine.go(state, machine.ends[0])
        other = NOWHERE if step is None else step[1]
        first = paths.letters.wrapped(form, paths.front(form, state))
        for (second, after, _), row in paths.endings((form, 0, other, False)).items():
            keep_least(found, (kind, second, after), first + paths.letters.wrapped(form, row), len(first) - 1)
    return found


def split_pieces(paths, form):
    """What split tells, each with (length, letters, index) of its least piece."""
    found = {}
    ends = paths.book.machine(form).ends
    empty = paths.letters.wrapped(form, "")
    for name, state, _, after in paths.pairs.standing.get(ends[0], []):
        if name != form:
            continue
        front = paths.front(form, state)
        for (kind, last, _), row in paths.endings((form, after, 0, False)).items():
            piece = paths.letters.wrapped(form, front + empty + row)
            keep_least(found, (kind, ends[state] or "", last), piece, len(front) + 1)
    return found


def _longer(paths, form, state, token):
    """The pair of a state and the state behind one more token there."""
    step = paths.book.machine(form).go(state, token)
    if step is None:
        return form, state, NOWHERE, False
    return form, state, step[1], token in paths.book.signs
