"""Books: the words, the signs and the forms of a data language."""

from silentslips.errors import BadBook, Unknown, Unused, Unwritable
from silentslips.leasts import Leasts
from silentslips.machines import machine_of
from silentslips.rows import Ways
from silentslips.tokens import is_name, is_token, runs_of


class Book:
    """A data language; it is never changed.

    Besides what the document lists a book has ways: they lead from token to token.
    """

    LIMIT = 40

    def __init__(self, whole, *forms, words, signs):
        told = [whole, *forms]
        _check_forms(told)
        self.words = tuple(words)
        self.signs = tuple(signs)
        self.tokens = self.words + self.signs + _brackets(told)
        _check_tokens(self.tokens)
        _check_kinds(told, self.tokens)
        self.kinds = tuple([kind for form in told for kind in form.kinds])
        # The whole form is the first one, and its kinds stand in no row.
        self.symbols = self.words + self.signs + self.kinds[len(whole.kinds):]
        _check_symbols(told, self.symbols)
        self.forms = tuple([form.name for form in told])
        self._forms = {form.name: form for form in told}
        self._form_of = {kind: form.name for form in told for kind in form.kinds}
        self._machines = {form.name: _machine(form, self.symbols) for form in told}
        leasts = Leasts(told, self._machines, self.tokens, Book.LIMIT)
        _check_use(told, self.kinds, leasts.known)
        self._leasts = {kind: leasts.known[kind] for kind in self.kinds}
        self.ways = Ways(told, self.tokens, self._machines, leasts.rests)

    @classmethod
    def of(cls, forms, words, signs):
        """The book with a list of all its forms, the whole form ahead."""
        if len(forms) == 0:
            raise BadBook("whole", 0)
        whole, *others = forms
        return cls(whole, *others, words=words, signs=signs)

    def form_named(self, name):
        """The form of this name."""
        if name not in self._forms:
            raise Unknown(name)
        return self._forms[name]

    def form_of(self, kind):
        """The name of the form of a kind."""
        if kind not in self._form_of:
            raise Unknown(kind)
        return self._form_of[kind]

    def __getitem__(self, at):
        return self.form_named(self.form_of(at))[at]

    def __iter__(self):
        raise TypeError("a book cannot be iterated over")

    def machine(self, name):
        """The machine of the form of this name."""
        if name not in self._machines:
            raise Unknown(name)
        return self._machines[name]

    def least(self, kind):
        """The least group of a kind, or the least row of a kind of the whole form, as a text."""
        if kind not in self._leasts:
            raise Unknown(kind)
        return " ".join([self.tokens[number] for number in self._leasts[kind]])

    def __contains__(self, x):
        if not isinstance(x, str):
            return False
        row = self.ways.through(self.ways.start(), runs_of(x))
        return row is not None and self.ways.is_text(row)

    def texts(self, most):
        """All texts of at most so many tokens, in order."""
        level = [((), self.ways.start())]
        for length in range(most + 1):
            if length > 0:
                level = self._longer(level, most - length)
            for tokens, row in level:
                if self.ways.is_text(row):
                    yield " ".join(tokens)

    def _longer(self, level, most):
        """What is one token longer than a level and at most so many tokens short of a text; in order as it is."""
        longer = []
        for tokens, row in level:
            for token in self.tokens:
                after = self.ways.after(row, token)
                if after is not None and self.ways.missing(after) <= most:
                    longer.append((tokens + (token,), after))
        return longer


def _brackets(forms):
    """The openers and closers of all forms but the whole one, in order."""
    brackets = ()
    for form in forms[1:]:
        brackets = brackets + (form.opener, form.closer)
    return brackets


def _machine(form, symbols):
    """The machine of a form."""
    return machine_of([(kind, form[kind]) for kind in form.kinds], symbols, form=form.name)


def _check_forms(forms):
    """Raises what is wrong with forms that are not the whole one, are it twice, or have the name of another one."""
    for at, form in enumerate(forms):
        if form.is_whole != (at == 0):
            raise BadBook("whole", at)
    names = [form.name for form in forms]
    for at, name in enumerate(names):
        if name in names[:at]:
            raise BadBook("form", name)


def _check_tokens(tokens):
    """Raises the first token that is none, or that stood before."""
    for at, token in enumerate(tokens):
        if not is_token(token) or token in tokens[:at]:
            raise BadBook("token", token)


def _check_kinds(forms, tokens):
    """Raises a form without kinds, or the first kind that is no name, a token, or that stood before."""
    for form in forms:
        if len(form) == 0:
            raise BadBook("empty", form.name)
    met = list(tokens)
    for form in forms:
        for kind in form.kinds:
            if not is_name(kind) or kind in met:
                raise BadBook("kind", kind)
            met.append(kind)


def _check_symbols(forms, symbols):
    """Raises the first symbol of a pattern that is not allowed."""
    for form in forms:
        for kind in form.kinds:
            for symbol in form[kind].uses():
                if symbol not in symbols:
                    raise BadBook("symbol", symbol)


def _check_use(forms, kinds, leasts):
    """Raises the first kind without a short group or row, or the first one that no text has."""
    for kind in kinds:
        if kind not in leasts:
            raise Unwritable(kind)
    patterns = {kind: form[kind] for form in forms for kind in form.kinds}
    # All kinds have groups here, so each symbol of a pattern stands in some row of groups.
    used = list(forms[0].kinds)
    met = {kind: True for kind in used}
    while used:
        for symbol in patterns[used.pop()].uses():
            if symbol in patterns and symbol not in met:
                met[symbol] = True
                used.append(symbol)
    for kind in kinds:
        if kind not in met:
            raise Unused(kind)
