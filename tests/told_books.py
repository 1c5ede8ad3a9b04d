"""What the document says of books, texts and slips, worked out slowly from the rows of told patterns.

A told book has words, signs and a list of forms: (name, opener, closer, [(kind, told pattern)]), the whole form
ahead. What is written down here of a row or a group is (tokens, meaning, spots, kinds): all of them tuples.
"""

from functools import lru_cache

from silentslips.books import Book
from silentslips.errors import Ambiguous, Unused, Unwritable
from silentslips.forms import Form
from tests.told import any_told, build, rows


class ToldBook:
    def __init__(self, words, signs, forms):
        self.words, self.signs, self.forms = tuple(words), tuple(signs), forms
        self.tokens = self.words + self.signs + tuple(side for form in forms[1:] for side in form[1:3])
        self.patterns = {kind: told for form in forms for kind, told in form[3]}
        self.form_of = {kind: form for form in forms for kind, _ in form[3]}
        self.rows_of = lru_cache(None)(self._rows_of)
        self.groups_of = lru_cache(None)(self._groups_of)

    def book(self):
        forms = [Form.whole_of([(kind, build(told)) for kind, told in self.forms[0][3]])]
        for name, opener, closer, pairs in self.forms[1:]:
            forms.append(Form.of(name, opener, closer, [(kind, build(told)) for kind, told in pairs]))
        return Book.of(forms, list(self.words), list(self.signs))

    def _rows_of(self, kind, many):
        """All rows of a kind with exactly so many tokens."""
        found = []
        for steps in rows(self.patterns[kind], many):
            found.extend(self._filled(self.form_of[kind][0], kind, steps, many))
        return [(tokens, (kind, parts), spots, kinds) for tokens, parts, spots, kinds in found]

    def _filled(self, form, kind, steps, many):
        """The rows with these steps and so many tokens; parts in the place of meanings."""
        if not steps:
            return [((), (), (), ())] if many == 0 else []
        (symbol, role), rest = steps[0], steps[1:]
        if symbol in self.patterns:
            heads = [(tokens, ((role, meaning),), spots, kinds) for size in range(2, many + 1)
                     for tokens, meaning, spots, kinds in self.groups_of(symbol, size)]
        else:
            part = ((role, symbol),) if symbol in self.words else ()
            heads = [((symbol,), part, ((form, role),), (kind,))]
        found = []
        for head in heads:
            if len(head[0]) <= many:
                for tail in self._filled(form, kind, rest, many - len(head[0])):
                    found.append(tuple(one + other for one, other in zip(head, tail)))
        return found

    def _groups_of(self, kind, many):
        """All groups of a kind with exactly so many tokens."""
        name, opener, closer, _ = self.form_of[kind]
        if many < 2:
            return []
        return [((opener, *tokens, closer), meaning, ((name, "open"), *spots, (name, "close")), (kind, *kinds, kind))
                for tokens, meaning, spots, kinds in self.rows_of(kind, many - 2)]

    def texts(self, most):
        """A dict of all texts of at most so many tokens, in order, with what is written down of them."""
        found = {}
        for many in range(most + 1):
            level = [told for kind, _ in self.forms[0][3] for told in self.rows_of(kind, many)]
            for told in sorted(level, key=lambda told: self.rank(told[0])):
                text = " ".join(told[0])
                # A text of a book is read in one way.
                assert found.setdefault(text, told) == told, (text, told)
        return found

    def goes_on(self, tokens):
        """Whether some text begins with these tokens; the patterns are made of at most six symbols."""
        return self._begins(self.forms[0], [kind for kind, _ in self.forms[0][3]], tuple(tokens))

    def _begins(self, form, kinds, tokens):
        """Whether some row of one of the kinds begins with these tokens."""
        split = self._split(form, tokens)
        if split is None:
            return False
        symbols, inner, rest = split
        for kind in kinds:
            for steps in rows(self.patterns[kind], len(symbols) + 6):
                if tuple(symbol for symbol, _ in steps[:len(symbols)]) != symbols:
                    continue
                if inner is None:
                    return True
                if len(steps) > len(symbols) and steps[len(symbols)][0] in dict(inner[3]):
                    if self._begins(inner, [steps[len(symbols)][0]], rest):
                        return True
        return False

    def _split(self, form, tokens):
        """The symbols that the tokens begin with, and the form and the tokens of a group that does not end."""
        symbols = []
        openers = {form[1]: form for form in self.forms[1:]}
        while tokens:
            if tokens[0] in self.words + self.signs:
                symbols.append(tokens[0])
                tokens = tokens[1:]
            elif tokens[0] in openers:
                inner = openers[tokens[0]]
                ends = [at for at in range(1, len(tokens)) if self._kind(inner, tokens[:at + 1])]
                if not ends:
                    return tuple(symbols), inner, tokens[1:]
                symbols.append(self._kind(inner, tokens[:ends[0] + 1]))
                tokens = tokens[ends[0] + 1:]
            else:
                return None
        return tuple(symbols), None, ()

    def _kind(self, form, tokens):
        """The kind of the group that is these tokens, or None."""
        for kind, _ in form[3]:
            if any(told[0] == tokens for told in self.groups_of(kind, len(tokens))):
                return kind
        return None

    def awaited(self, tokens):
        """What point 18 says is awaited behind these tokens."""
        found = [token for token in self.tokens if self.goes_on((*tokens, token))]
        return tuple(found + [""] * (" ".join(tokens) in self.texts(len(tokens))))

    def rank(self, tokens):
        return len(tokens), [self.tokens.index(token) for token in tokens]

    def least(self, kind, most):
        """The least group or row of at most so many tokens, or None."""
        inside = self.rows_of if self.form_of[kind] is self.forms[0] else self.groups_of
        for many in range(most + 1):
            found = sorted([told[0] for told in inside(kind, many)], key=self.rank)
            if found:
                return " ".join(found[0])
        return None


def sizes(book, longest):
    """The fewest tokens of the kinds of a told book, from rows of at most so many steps."""
    found = {}
    changed = True
    while changed:
        changed = False
        for kind, told in book.patterns.items():
            more = 0 if book.form_of[kind] is book.forms[0] else 2
            for steps in rows(told, longest):
                symbols = [symbol for symbol, _ in steps]
                if all(symbol in found or symbol not in book.patterns for symbol in symbols):
                    size = more + sum(found.get(symbol, 1) for symbol in symbols)
                    if size < found.get(kind, size + 1):
                        found[kind] = size
                        changed = True
    return found


def used(book, longest):
    """The kinds of a told book that some text has, all of them being writable."""
    found = [kind for kind, _ in book.forms[0][3]]
    for kind in found:
        symbols = {symbol for steps in rows(book.patterns[kind], longest) for symbol, _ in steps}
        found.extend(sorted(symbol for symbol in symbols if symbol in book.patterns and symbol not in found))
    return found


ROLES = ["r", "s"]


def any_book(random, size, kinds_in=(1, 2)):
    """Some told book; it may be none that is allowed."""
    words = ["a", "b"][:random.randint(0, 2)]
    signs = [",", ";"][:random.randint(0, 2)]
    brackets = [("round", "(", ")", ["k", "m"]), ("list", "[", "]", ["n", "o"])][:random.randint(0, 2)]
    named = [("whole", "", "", ["doc", "all"])] + brackets
    named = [(*form[:3], form[3][:random.choice(kinds_in)]) for form in named]
    symbols = words + signs + [kind for form in named[1:] for kind in form[3]]
    steps = [(symbol, role) for symbol in symbols for role in (ROLES if random.random() < 0.2 else ROLES[:1])]
    forms = []
    for name, opener, closer, kinds in named:
        told = [any_told(random, steps, random.randint(1, size)) if steps else ("nothing",) for _ in kinds]
        forms.append((name, opener, closer, list(zip(kinds, told))))
    return ToldBook(words, signs, forms)


def good_books(random, many, size, kinds_in=(1, 2)):
    """So many pairs of a told book that is allowed, and its Book; no dull ones."""
    found = []
    while len(found) < many:
        told = any_book(random, size, kinds_in)
        try:
            book = told.book()
        except (Ambiguous, Unwritable, Unused):
            continue
        if len(told.texts(6)) > 3:
            found.append((told, book))
    return found


def slipped(rule, tokens, place):
    """The tokens behind a slip, by the words of point 21, or None where the rule has no such place."""
    word, a, b = rule if len(rule) == 3 else (*rule, None)
    if not 0 <= place < len(tokens) or tokens[place] != a:
        return None
    if word == "out":
        return tokens[:place] + tokens[place + 1:]
    if word == "twice":
        return tokens[:place] + (a, a) + tokens[place + 1:]
    if word == "taken":
        return tokens[:place] + (b,) + tokens[place + 1:]
    if place + 1 < len(tokens) and tokens[place + 1] == b:
        return tokens[:place] + (b, a) + tokens[place + 2:]
    return None


def all_rules(tokens):
    """All rules with these tokens, as tuples, in the order of point 30."""
    pairs = sorted((a, b) for a in tokens for b in tokens if a != b)
    found = [(word, a) for word in ("out", "twice") for a in sorted(tokens)]
    return found + [(word, a, b) for word in ("swapped", "taken") for a, b in pairs]


def example():
    """The book of the example at the end of the document."""
    item = ("one", "x", "item")
    for kind in ("group", "tuple", "list"):
        item = ("|", item, ("one", kind, "item"))
    comma = ("one", ",", "between")
    string = ("+", ("one", "s", "new"), ("~", ("one", "s", "joined")))
    return ToldBook(["x", "s"], [","], [
        ("whole", "", "", [("doc", item)]),
        ("round", "(", ")", [("group", item), ("tuple", ("+", (">>", item, comma), ("-", item)))]),
        ("list", "[", "]", [("list", ("-", ("<<", ("|", item, string), comma)))]),
    ])
