"""Tokens written as single letters: a row of tokens is a string then, and strings are quick to put together.

Letters ascend as the tokens of the book do. So strings of the same length are ordered as their tokens are.
"""

LETTERS = "0123456789ABCDEFGHIJKLMNOPQRSTUVWXYZabcdefghijklmnopqrstuvwxyz"


class Letters:
    """The letters of a book.

    - symbols: for each token its letter, for each kind of a form with brackets the letters of its least group
    """

    def __init__(self, book):
        self._tokens = {LETTERS[number]: token for number, token in enumerate(book.tokens)}
        self.symbols = {token: LETTERS[number] for number, token in enumerate(book.tokens)}
        self._sides = {}
        for name in book.forms:
            form = book.form_named(name)
            self._sides[name] = (self.symbols.get(form.opener, ""), self.symbols.get(form.closer, ""))
        kinds = [symbol for symbol in book.symbols if symbol not in self.symbols]
        self.symbols.update({kind: self.row_of(book.least(kind).split(" ")) for kind in kinds})

    def row_of(self, tokens):
        """The letters of these tokens."""
        return "".join([self.symbols[token] for token in tokens])

    def opening(self, form):
        """The letter of the opener of a form, nothing for the whole form."""
        return self._sides[form][0]

    def closing(self, form):
        """The letter of the closer of a form, nothing for the whole form."""
        return self._sides[form][1]

    def wrapped(self, form, row):
        """A row of a form with the brackets of the form, if it has any."""
        return self.opening(form) + row + self.closing(form)

    def told(self, row):
        """The text of a row."""
        return " ".join([self._tokens[letter] for letter in row])


def keep_least(found, key, row, at):
    """Keeps a row with a place in it for the key, unless what is kept there is less: (length, row, place)."""
    worth = (len(row), row, at)
    if key not in found or worth < found[key]:
        found[key] = worth
