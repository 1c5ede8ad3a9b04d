"""Drafts: books under work, whose changes can be undone."""

from silentslips.errors import NothingToUndo
from silentslips.mending import Change, changed


class Draft:
    """A book, and the books that it was before each step."""

    def __init__(self, book):
        self._now = book
        self._past = []

    @property
    def now(self):
        """The book as it is now."""
        return self._now

    def __getitem__(self, at):
        return self._now[at]

    def __setitem__(self, at, worth):
        self.apply(Change(at, worth))

    def __iter__(self):
        raise TypeError("a draft cannot be iterated over")

    def __len__(self):
        return len(self._past)

    def apply(self, *changes):
        """Makes some changes at once: one step."""
        after = changed(self._now, changes)
        self._past.append(self._now)
        self._now = after

    def undo(self):
        """Takes the last step back."""
        if not self._past:
            raise NothingToUndo()
        self._now = self._past.pop()
