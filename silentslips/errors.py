"""The errors of the package, each with the fields that it is made with."""


def kept(value):
    """The value, its lists copied: later changes to an argument have no effect."""
    if isinstance(value, list):
        return [kept(part) for part in value]
    if isinstance(value, tuple):
        return tuple([kept(part) for part in value])
    return value


class SlipError(ValueError):
    """What is wrong with a value that was passed."""


class BadCount(SlipError):
    """A number that is too small or too great."""

    def __init__(self, count):
        SlipError.__init__(self, f"this number is not allowed here: {count!r}")
        self.count = kept(count)


class BadBook(SlipError):
    """A part that no book can have."""

    def __init__(self, what, worth):
        SlipError.__init__(self, f"no book can have this {what!s}: {worth!r}")
        self.what = kept(what)
        self.worth = kept(worth)


class Ambiguous(SlipError):
    """Symbols that can be read in two ways."""

    def __init__(self, form, row):
        SlipError.__init__(self, f"these symbols of the form {form!r} can be read in two ways: {row!r}")
        self.form = kept(form)
        self.row = kept(row)


class Unwritable(SlipError):
    """A kind without a short group."""

    def __init__(self, kind):
        SlipError.__init__(self, f"this kind has no short group: {kind!r}")
        self.kind = kept(kind)


class Unused(SlipError):
    """A kind that no text has."""

    def __init__(self, kind):
        SlipError.__init__(self, f"no text contains a group of this kind: {kind!r}")
        self.kind = kept(kind)


class BadRule(SlipError):
    """What is no rule, or no rule that may be used."""

    def __init__(self, worth):
        SlipError.__init__(self, f"no rule can be made of this, or it may not be used here: {worth!r}")
        self.worth = kept(worth)


class NoPlace(SlipError):
    """A number that is no place of a rule."""

    def __init__(self, place):
        SlipError.__init__(self, f"the rule has no such place: {place!r}")
        self.place = kept(place)


class NoCase(SlipError):
    """Spots at which a rule has no slip."""

    def __init__(self, rule, spots):
        SlipError.__init__(self, f"the rule {rule!r} has no slip with these spots: {spots!r}")
        self.rule = kept(rule)
        self.spots = kept(spots)


class Uneven(SlipError):
    """A token that two books treat differently."""

    def __init__(self, token):
        SlipError.__init__(self, f"the books treat this token differently: {token!r}")
        self.token = kept(token)


class Unwritten(SlipError):
    """A part of a meaning that no text has."""

    def __init__(self, path):
        SlipError.__init__(self, f"no text has the part of the meaning at this path: {path!r}")
        self.path = kept(path)


class Clash(SlipError):
    """A kind that two changes concern."""

    def __init__(self, kind):
        SlipError.__init__(self, f"two changes concern this kind: {kind!r}")
        self.kind = kept(kind)


class Unknown(LookupError):
    """A name that nothing has."""

    def __init__(self, name):
        LookupError.__init__(self, f"nothing is called so: {name!r}")
        self.name = kept(name)


class TooFew(LookupError):
    """More is asked back than was taken."""

    def __init__(self, count):
        LookupError.__init__(self, f"fewer were taken: {count!r}")
        self.count = kept(count)


class NothingToUndo(LookupError):
    """No step is left to take back."""

    def __init__(self):
        LookupError.__init__(self, "there is no step to undo")


class Refused(RuntimeError):
    """Tokens that are no text of the book."""

    def __init__(self, at, line, awaited):
        RuntimeError.__init__(self, f"refused at token {at!r}, line {line!r}; awaited: {awaited!r}")
        self.at = kept(at)
        self.line = kept(line)
        self.awaited = kept(awaited)


class TooDeep(RuntimeError):
    """More open groups than the limit allows."""

    def __init__(self, at):
        RuntimeError.__init__(self, f"too many open groups at token {at!r}")
        self.at = kept(at)
