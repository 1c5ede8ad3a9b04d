"""Writing: texts for meanings, and the meanings that another book can't write."""

from heapq import heappop, heappush

from silentslips.errors import Unwritten
from silentslips.letters import Letters
from silentslips.losses import Losses, least_fronts, least_lost
from silentslips.pairs import is_listed, leads_of
from silentslips.paths import Paths
from silentslips.quiet import Quiet


def write(book, meaning):
    """The least text of the book with this meaning."""
    nodes = Nodes(book)
    path = nodes.first_unwritten(meaning)
    if path is not None:
        raise Unwritten(path)
    return Writer(book).told(meaning)


def loss(book, other):
    """What is lost from a book to another one."""
    return Loss(book, other)


class Loss:
    """Where the other book can be behind the beginnings of rows, and the least text whose meaning is lost."""

    def __init__(self, book, other):
        losses = Losses(book, other)
        paths = Paths(book)
        fronts = least_fronts(losses, book, paths)
        self.rows = tuple(sorted(fronts))
        self.text = least_lost(losses, book, paths, fronts)

    def __bool__(self):
        return self.text is None


def is_loss(book, other, rows):
    """Whether rows are some, and contain the beginnings of all kinds and all that follows from them."""
    losses = Losses(book, other)
    if not is_listed(rows) or not all([losses.is_row(row) for row in rows]):
        return False
    given = {row: True for row in rows}
    wanted = [losses.begun(kind) for kind in book.kinds]
    for row in rows:
        wanted.extend([after for _, after in losses.following(row)])
    return all([row in given for row in wanted])


class Nodes:
    """Tells which nodes of any value are written in a book."""

    def __init__(self, book):
        self._book = book
        self._quiet = Quiet(book)
        self._groups = [kind for kind in book.kinds if book.form_of(kind) != book.forms[0]]

    def first_unwritten(self, meaning):
        """The path of the first unwritten node, or None."""
        todo = [((), meaning)]
        while todo:
            path, node = todo.pop()
            if not self._is_written(node, path == ()):
                return path
            things = [((*path, at), part[1]) for at, part in enumerate(node[1]) if isinstance(part[1], tuple)]
            # The first part is taken next, with all that is in it.
            todo.extend(things[::-1])
        return None

    def _is_written(self, node, is_whole):
        """Whether some row of the kind of the node has just its parts."""
        if not _is_node(node):
            return False
        kind, parts = node
        if kind not in self._book.kinds or (kind in self._groups) == is_whole:
            return False
        form = self._book.form_of(kind)
        states = self._quiet.begun(form)
        for role, thing in parts:
            symbol = self._symbol(thing)
            states = () if symbol is None else self._quiet.led(form, states, symbol, role)
        ends = self._book.machine(form).ends
        return any([ends[state] == kind for state in states])

    def _symbol(self, thing):
        """The symbol of a part in a row, or None if nothing in a row can be this part."""
        if isinstance(thing, str):
            return thing if thing in self._book.words else None
        if not isinstance(thing, tuple) or len(thing) == 0:
            return None
        return thing[0] if thing[0] in self._groups else None


def _is_node(x):
    """Whether any value is a tuple of a string and a tuple of pairs."""
    if not isinstance(x, tuple) or len(x) != 2 or not isinstance(x[0], str) or not isinstance(x[1], tuple):
        return False
    return all([isinstance(part, tuple) and len(part) == 2 for part in x[1]])


class Writer:
    """Writes meanings of a book, in letters."""

    def __init__(self, book):
        self._book = book
        self._letters = Letters(book)
        self._leads = {form: leads_of(book.machine(form)) for form in book.forms}

    def told(self, meaning):
        """The least text with this meaning."""
        return self._letters.told(self._group(meaning))

    def _group(self, node):
        """The least letters with the meaning of a node, the brackets with them."""
        kind, parts = node
        form = self._book.form_of(kind)
        machine = self._book.machine(form)
        fronts = self._rested(form, [("", 0)])
        for role, thing in parts:
            symbol = thing if isinstance(thing, str) else thing[0]
            more = self._letters.symbols[symbol] if isinstance(thing, str) else self._group(thing)
            found = []
            for state, row in fronts.items():
                step = machine.go(state, symbol)
                if step is not None and step[0] == role:
                    found.append((row + more, step[1]))
            fronts = self._rested(form, found)
        ended = [(len(row), row) for state, row in fronts.items() if machine.ends[state] == kind]
        return self._letters.wrapped(form, min(ended)[1])

    def _rested(self, form, rows):
        """For the states of some rows, and those to which signs lead on from them, the least row."""
        queue = []
        for row, state in rows:
            heappush(queue, (len(row), row, state))
        found = {}
        while queue:
            length, row, state = heappop(queue)
            if state in found:
                continue
            found[state] = row
            for symbol, _, after in self._leads[form][state]:
                if symbol in self._book.signs:
                    heappush(queue, (length + 1, row + self._letters.symbols[symbol], after))
        return found
