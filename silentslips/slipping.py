"""Slipping: what one slip in a text of a book leads to, and where a text may come from."""

from silentslips.errors import NoPlace
from silentslips.reading import read, tokens_of


def fate(book, text, rule, place):
    """What a slip leads to: refused, same or other."""
    told = read(book, text)
    slipped = rule(text, place)
    if slipped not in book:
        return "refused"
    return "same" if read(book, slipped) == told else "other"


def spots_at(book, text, rule, place):
    """The spots of a slip."""
    told = read(book, text)
    if not rule.stands(told.tokens, place):
        raise NoPlace(place)
    return told.spots[place:place + len(rule.removed)]


def origins(book, text, slips):
    """The texts of the book that a slip makes to this text: each with the rule and the place."""
    tokens = tokens_of(text)
    rows = _rows_before(book, tokens)
    found = []
    for rule in slips.rules:
        for place, row in enumerate(rows):
            behind = _unslipped(rule, tokens, place)
            if behind is not None and _is_text(book, row, behind):
                found.append((" ".join(tokens[:place] + behind), str(rule), place))
    return found


def _rows_before(book, tokens):
    """The rows in front of the first tokens and behind the last one, as far as texts go on so."""
    rows = [book.ways.start()]
    for token in tokens:
        row = book.ways.after(rows[-1], token)
        if row is None:
            return rows
        rows.append(row)
    return rows


def _unslipped(rule, tokens, place):
    """The tokens from a place on as they were if the rule made them what they are, or None."""
    end = place + len(rule.inserted)
    if tuple(tokens[place:end]) != rule.inserted:
        return None
    return list(rule.removed) + tokens[end:]


def _is_text(book, row, tokens):
    """Whether these tokens behind a row make a text."""
    behind = book.ways.through(row, tokens)
    return behind is not None and book.ways.is_text(behind)
