"""Mending: changes of a book after which no slip is silent and no meaning is lost."""

from silentslips.books import Book
from silentslips.errors import Ambiguous, BadBook, Clash, Unknown, Unused, Unwritable
from silentslips.forms import Form
from silentslips.patterns import numbers_in
from silentslips.surveys import first_silent
from silentslips.writing import loss


class Change:
    """Another pattern for a kind; the object can be called."""

    def __init__(self, kind, pattern):
        self.kind = kind
        self.pattern = pattern

    def __call__(self, book):
        return changed(book, [self])


def changed(book, changes):
    """The book with some changes, made at once."""
    _check_known(book, changes)
    patterns = {}
    for change in changes:
        if change.kind in patterns:
            raise Clash(change.kind)
        patterns[change.kind] = change.pattern
    forms = [_changed_form(book.form_named(name), patterns) for name in book.forms]
    return Book.of(forms, book.words, book.signs)


def why_not(book, slips, changes):
    """None if the changes are right, otherwise why they are not."""
    try:
        after = changed(book, changes)
    except Clash as e:
        return "clash", e.kind
    except BadBook:
        return "broken", "BadBook"
    except Ambiguous:
        return "broken", "Ambiguous"
    except Unwritable:
        return "broken", "Unwritable"
    except Unused:
        return "broken", "Unused"
    text = loss(book, after).text
    if text is not None:
        return "lost", text
    silent = first_silent(after, slips)
    return None if silent is None else ("silent", *silent)


def mends(book, slips, *pool):
    """All least sets of changes of the pool that are right, as tuples of their indexes."""
    _check_known(book, pool)
    sets = [tuple(numbers_in(many)) for many in range(1 << len(pool))]
    found = []
    for indexes in sorted(sets, key=_rank):
        # The smaller sets come first, so a set with a smaller right one in it is no least one.
        if not any([all([at in indexes for at in least]) for least in found]):
            if why_not(book, slips, [pool[at] for at in indexes]) is None:
                found.append(indexes)
    return found


def _rank(indexes):
    """What the order of sets goes by."""
    return len(indexes), indexes


def _check_known(book, changes):
    """Raises the first kind of a change that is none of the book."""
    for change in changes:
        if change.kind not in book.kinds:
            raise Unknown(change.kind)


def _changed_form(form, patterns):
    """The form with these patterns for their kinds."""
    pairs = [(kind, patterns.get(kind, form[kind])) for kind in form.kinds]
    if form.is_whole:
        return Form.whole_of(pairs)
    return Form.of(form.name, form.opener, form.closer, pairs)
