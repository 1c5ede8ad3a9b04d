"""Rules of slips, and sets of them."""

from silentslips.errors import BadRule, NoPlace
from silentslips.reading import tokens_of
from silentslips.tokens import is_token

WORDS = ("out", "twice", "swapped", "taken")


class Rule:
    """What goes wrong with one token, or with two that stand beside each other.

    - removed: the tokens that stand in the text at a place of the rule
    - inserted: those that stand there behind the slip
    """

    word = ""
    # How many of the tokens may be words if the rule keeps the words of a book.
    MOST_WORDS = 0

    def __init__(self, *tokens):
        for token in tokens:
            if not is_token(token):
                raise BadRule(token)
        if len(tokens) > 1 and tokens[0] == tokens[1]:
            raise BadRule(tokens[0])
        self.tokens = tokens

    def __str__(self):
        return " ".join([self.word, *self.tokens])

    def __eq__(self, other):
        return isinstance(other, Rule) and self.word == other.word and self.tokens == other.tokens

    def places(self, text):
        """The places of the rule in a text, ascending."""
        tokens = tokens_of(text)
        for place in range(len(tokens)):
            if self.stands(tokens, place):
                yield place

    def __call__(self, text, place):
        tokens = tokens_of(text)
        if not self.stands(tokens, place):
            raise NoPlace(place)
        return " ".join(tokens[:place] + list(self.inserted) + tokens[place + len(self.removed):])

    def keeps_words(self, book):
        """Whether no word and no bracket of the book can be lost, added or moved."""
        if any([token not in book.words and token not in book.signs for token in self.tokens]):
            return False
        return len([token for token in self.tokens if token in book.words]) <= self.MOST_WORDS

    def stands(self, tokens, place):
        """Whether an integer is a place of the rule in a list of tokens."""
        return place >= 0 and tuple(tokens[place:place + len(self.removed)]) == self.removed


class Out(Rule):
    """A token is left out."""

    word = "out"

    def __init__(self, token):
        Rule.__init__(self, token)
        self.removed = (token,)
        self.inserted = ()


class Twice(Rule):
    """A token is written twice."""

    word = "twice"

    def __init__(self, token):
        Rule.__init__(self, token)
        self.removed = (token,)
        self.inserted = (token, token)


class Swapped(Rule):
    """A token and the one behind it are written the other way round."""

    word = "swapped"
    MOST_WORDS = 1

    def __init__(self, first, second):
        Rule.__init__(self, first, second)
        self.removed = (first, second)
        self.inserted = (second, first)


class Taken(Rule):
    """The second token is written in the place of the first one."""

    word = "taken"

    def __init__(self, first, second):
        Rule.__init__(self, first, second)
        self.removed = (first,)
        self.inserted = (second,)


def rule_of(text):
    """The rule that is written so."""
    word, *tokens = text.split(" ")
    if any([not is_token(token) for token in tokens]):
        raise BadRule(text)
    if len(tokens) == 1 and word == "out":
        return Out(tokens[0])
    if len(tokens) == 1 and word == "twice":
        return Twice(tokens[0])
    if len(tokens) == 2 and tokens[0] != tokens[1]:
        if word == "swapped":
            return Swapped(tokens[0], tokens[1])
        if word == "taken":
            return Taken(tokens[0], tokens[1])
    raise BadRule(text)


class Slips:
    """A set of rules; it is never changed."""

    def __init__(self, *rules):
        self._named = {str(rule): rule for rule in rules}
        self.rules = tuple(sorted(list(self._named.values()), key=_rank))

    @classmethod
    def of(cls, rules):
        """The set of the rules of a list."""
        return cls(*rules)

    @classmethod
    def every(cls, book):
        """All rules with tokens of the book."""
        rules = []
        for first in book.tokens:
            rules.extend([Out(first), Twice(first)])
            for second in book.tokens:
                if first != second:
                    rules.extend([Swapped(first, second), Taken(first, second)])
        return cls(*rules)

    def __and__(self, other):
        rules = [rule for rule in self.rules if rule in other]
        return Slips(*rules)

    def __or__(self, other):
        rules = [*self.rules, *other.rules]
        return Slips(*rules)

    def __sub__(self, other):
        rules = [rule for rule in self.rules if rule not in other]
        return Slips(*rules)

    def __xor__(self, other):
        return (self - other) | (other - self)

    def within(self, other):
        """Whether all rules of this set are in the other one."""
        return len(self - other) == 0

    def __eq__(self, other):
        return isinstance(other, Slips) and self.rules == other.rules

    def __contains__(self, x):
        return isinstance(x, Rule) and str(x) in self._named

    def __len__(self):
        return len(self.rules)

    def __bool__(self):
        return bool(self.rules)


def _rank(rule):
    """What the order of rules goes by."""
    return WORDS.index(rule.word), rule.tokens


def slipped_at(text, steps):
    """The text behind several slips, each of which changes tokens of its own."""
    tokens = tokens_of(text)
    written = {}
    for rule, place in steps:
        own = [place + more for more in range(len(rule.removed))]
        if not rule.stands(tokens, place) or any([at in written for at in own]):
            raise NoPlace(place)
        written.update({at: () for at in own})
        written[place] = rule.inserted
    slipped = []
    for at, token in enumerate(tokens):
        slipped.extend(written.get(at, (token,)))
    return " ".join(slipped)
