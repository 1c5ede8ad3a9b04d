"""Shifts: what a slip changes in one row."""

from silentslips.pairs import NOWHERE, walked


class Shift:
    """Symbols of a row of the original text, and what stands for them in the row of the slipped text.

    - before: the symbols in the original row
    - behind: those in the slipped row, or None if it is refused whatever it is
    - spots: the spots of the slip; a number in the place of a spot means that of the symbol before with this index
    - alike: whether the meaning stays where the roles do
    - held: pairs of indexes, in before and in behind, of words and groups that must have the same role in both rows
    - barred: the name of a form in whose rows this does not happen, or None
    """

    def __init__(self, before, behind, spots, *, alike=False, held=(), barred=None):
        self.before = tuple(before)
        self.behind = None if behind is None else tuple(behind)
        self.spots = tuple(spots)
        self.alike = alike
        self.held = tuple(held)
        self.barred = barred

    def spots_in(self, form, roles):
        """The spots of the slip in a row of a form in which the symbols before have these roles."""
        return tuple([(form, roles[spot]) if isinstance(spot, int) else spot for spot in self.spots])


def plain_shift(book, rule):
    """The shift of a rule whose tokens are plain tokens of the book."""
    held = []
    if rule.word == "swapped":
        # The first token comes to stand second, and the second one first.
        held = [(at, 1 - at) for at, token in enumerate(rule.tokens) if token in book.words]
    spots = list(range(len(rule.removed)))
    return Shift(rule.removed, rule.inserted, spots, alike=rule.keeps_words(book), held=held)


def shifted(machine, pair, shift):
    """(roles of the symbols before, the pair behind the shift), or None if the original row does not go on so."""
    form, state, other, alike = pair
    told = walked(machine, state, shift.before)
    if told is None:
        return None
    roles, after = told
    slipped = None if shift.behind is None else walked(machine, other, shift.behind)
    if slipped is None:
        return roles, (form, after, NOWHERE, False)
    still = all([roles[at] == slipped[0][to] for at, to in shift.held])
    return roles, (form, after, slipped[1], alike and shift.alike and still)
