"""Forms: pairs of brackets, and the whole text, with the kinds of their rows."""

from silentslips.errors import Unknown


class Form:
    """A name, an opener and a closer, and kinds with their patterns."""

    def __init__(self, name, opener, closer, **kinds):
        self.name = name
        self.opener = opener
        self.closer = closer
        self._whole = False
        self._take(list(kinds.items()))

    @classmethod
    def of(cls, name, opener, closer, pairs):
        """The form with a list of pairs (kind, pattern)."""
        form = cls(name, opener, closer)
        form._take(pairs)
        return form

    @classmethod
    def whole(cls, **kinds):
        """The whole form with these kinds."""
        return cls.whole_of(list(kinds.items()))

    @classmethod
    def whole_of(cls, pairs):
        """The whole form with a list of pairs (kind, pattern)."""
        form = cls.of("whole", "", "", pairs)
        # Another form may have the same name, so the name does not tell a whole form.
        form._whole = True
        return form

    @property
    def is_whole(self):
        """Whether this is a whole form."""
        return self._whole

    def __getitem__(self, at):
        if at not in self:
            raise Unknown(at)
        return self._patterns[at]

    def __iter__(self):
        raise TypeError("a form cannot be iterated over")

    def __contains__(self, x):
        return isinstance(x, str) and x in self._patterns

    def __len__(self):
        return len(self.kinds)

    def _take(self, pairs):
        """Keeps kinds and patterns, in the order of the pairs."""
        self.kinds = tuple([kind for kind, _ in pairs])
        self._patterns = {kind: pattern for kind, pattern in pairs}
