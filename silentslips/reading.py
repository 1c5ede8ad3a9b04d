"""Reading: what a text of a book means, and tokens that are taken one by one."""

from silentslips.errors import BadCount, Refused, TooDeep, TooFew
from silentslips.tokens import runs_of


def tokens_of(text):
    """The tokens of a text."""
    return runs_of(text)


def read(book, text):
    """The reading of a text of the book."""
    tokens = tokens_of(text)
    row = book.ways.start()
    for at, token in enumerate(tokens):
        after = book.ways.after(row, token)
        if after is None:
            raise Refused(at, _line_at(text, at), book.ways.ahead(row))
        row = after
    if not book.ways.is_text(row):
        raise Refused(len(tokens), _line_at(text, len(tokens)), book.ways.ahead(row))
    return Reading(book, tokens)


def _line_at(text, at):
    """The line of the token at an index, or of the last token if there are fewer."""
    lines = [line for line, row in enumerate(text.split("\n"), start=1) for _ in runs_of(row)]
    if not lines:
        return 1
    return lines[min(at, len(lines) - 1)]


class Reading:
    """What the tokens of a text of a book mean."""

    def __init__(self, book, tokens):
        told = Telling(book, tokens)
        self.tokens = tuple(tokens)
        self.kind = told.kind
        self.meaning = told.meaning
        self.spots = tuple(told.spots)
        self.kinds = tuple(told.kinds)
        self._trace = tuple(told.trace)

    def __len__(self):
        return len(self.tokens)

    def __str__(self):
        return " ".join(self.tokens)

    # Meanings are as deep as the groups, and a comparison of deep tuples calls itself for each level. The traces
    # are flat, and equal exactly if the meanings are.
    def __eq__(self, other):
        return isinstance(other, Reading) and self._trace == other._trace


class Group:
    """A row that a telling is in: the indexes of its tokens, those of its brackets too, and its parts."""

    def __init__(self):
        self.own = []
        self.parts = []


class Telling:
    """Goes through the tokens of a text of a book, and gathers what a reading tells of them.

    The trace has an entry for each word and each bracket: a word with its role, nothing for an opener, and the
    kind and the role of the group for a closer; behind them stands the kind of the whole row.
    """

    def __init__(self, book, tokens):
        self.spots = []
        self.kinds = [""] * len(tokens)
        self.trace = []
        self._ways = book.ways
        self._words = book.words
        self._groups = [Group()]
        row = book.ways.start()
        for at, token in enumerate(tokens):
            self._tell(at, token, row)
            row = book.ways.after(row, token)
        self.kind = book.ways.kind_at(row)
        self.meaning = self._ended(self.kind)
        self.trace.append(self.kind)

    def _tell(self, at, token, row):
        """Gathers what is to be told of a token behind a row."""
        side = self._ways.side(token)
        if side is None:
            self._tell_plain(at, token, row)
            return
        self.spots.append(side)
        if side[1] == "open":
            self._groups.append(Group())
            self._groups[-1].own.append(at)
            self.trace.append(())
        else:
            self._groups[-1].own.append(at)
            self._close(row)

    def _tell_plain(self, at, token, row):
        """Gathers what is to be told of a word or a sign."""
        role = self._ways.role_at(row, token)
        self.spots.append((row.form, role))
        self._groups[-1].own.append(at)
        if token in self._words:
            self._groups[-1].parts.append((role, token))
            self.trace.append((role, token))

    def _close(self, row):
        """Ends the row of a group, and makes it a part of the row around."""
        kind = self._ways.kind_at(row)
        role = self._ways.role_at(row.around, kind)
        meaning = self._ended(kind)
        self._groups[-1].parts.append((role, meaning))
        self.trace.append((role, kind, "closed"))

    def _ended(self, kind):
        """The meaning of the innermost row, which ends as one of this kind."""
        group = self._groups.pop()
        for index in group.own:
            self.kinds[index] = kind
        return kind, tuple(group.parts)


class Reader:
    """Takes the tokens of a text one by one, and gives some of them back."""

    LIMIT = 150

    def __init__(self, book):
        self._book = book
        self._fed = []
        # The row in front of the first token, and that behind each one.
        self._rows = [book.ways.start()]
        self._limit = Reader.LIMIT

    @property
    def fed(self):
        """The tokens taken so far."""
        return tuple(self._fed)

    @property
    def depth(self):
        """The number of open groups."""
        return self._rows[-1].level

    @property
    def expected(self):
        """The tokens that can be next, and the empty string if the tokens so far are a text."""
        return self._book.ways.ahead(self._rows[-1])

    @property
    def limit(self):
        """How many groups may be open at one time."""
        return self._limit

    @limit.setter
    def limit(self, count):
        if count < 0:
            raise BadCount(count)
        self._limit = count

    def set_limit(self, count):
        """Lets so many groups be open at one time."""
        self.limit = count

    def feed(self, token):
        """Takes a token."""
        self._take_all([token])

    def feed_all(self, text):
        """Takes all tokens of a text, or none."""
        self._take_all(tokens_of(text))

    def back(self, count=1):
        """Forgets the last tokens."""
        if count < 0:
            raise BadCount(count)
        if count > len(self._fed):
            raise TooFew(count)
        kept = len(self._fed) - count
        del self._fed[kept:]
        del self._rows[kept + 1:]

    def done(self):
        """The reading of the tokens taken so far."""
        if not self._book.ways.is_text(self._rows[-1]):
            raise Refused(len(self._fed), None, self.expected)
        return Reading(self._book, self._fed)

    def copy(self):
        """A reader with the same book, tokens and limit."""
        other = Reader(self._book)
        other._fed = list(self._fed)
        other._rows = list(self._rows)
        other._limit = self._limit
        return other

    def _take_all(self, tokens):
        """Takes all these tokens, or none."""
        rows = [self._rows[-1]]
        for token in tokens:
            rows.append(self._row_behind(rows[-1], token, len(self._fed) + len(rows) - 1))
        self._fed.extend(tokens)
        self._rows.extend(rows[1:])

    def _row_behind(self, row, token, at):
        """The row behind one more token, the one at this index."""
        after = self._book.ways.after(row, token)
        if after is None:
            raise Refused(at, None, self._book.ways.ahead(row))
        if after.level > row.level and row.level >= self._limit:
            raise TooDeep(at)
        return after
