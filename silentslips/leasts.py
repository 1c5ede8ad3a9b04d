"""The least tokens of the symbols of a book, and of what stands behind each state of its machines."""


class Leasts:
    """What is least, as tuples of numbers of tokens: their indexes in the book's order.

    - known: for each token and each kind its least tokens, those of a group with its brackets; a kind that has
      none of at most so many tokens is not there
    - rests: by the name of a form, for each state: the kinds in which rows can end from the state on, each with
      the least tokens up to that end
    """

    def __init__(self, forms, machines, tokens, most):
        self.known = {token: (number,) for number, token in enumerate(tokens)}
        self.rests = {form.name: _ended(machines[form.name]) for form in forms}
        self._most = most
        # Whatever changes becomes less, so the rounds come to an end.
        while self._work_out(forms, machines):
            pass

    def _work_out(self, forms, machines):
        """Works out everything once more; whether something became less."""
        changed = False
        for form in forms:
            # What is behind a step is mostly worked out in front of it this way round.
            for step in machines[form.name].steps[::-1]:
                if self._step_back(form.name, step):
                    changed = True
            if self._close(form):
                changed = True
        return changed

    def _step_back(self, name, step):
        """Works out the state in front of a step; whether something became less."""
        state, symbol, _, after = step
        if symbol not in self.known:
            return False
        rests = self.rests[name]
        least = self.known[symbol]
        less = _less({kind: least + rest for kind, rest in rests[after].items()}, rests[state])
        rests[state].update(less)
        return len(less) > 0

    def _close(self, form):
        """Works out the kinds of a form; whether something became less."""
        front = () if form.is_whole else self.known[form.opener]
        end = () if form.is_whole else self.known[form.closer]
        found = {kind: front + rest + end for kind, rest in self.rests[form.name][0].items()}
        less = _less({kind: tokens for kind, tokens in found.items() if len(tokens) <= self._most}, self.known)
        self.known.update(less)
        return len(less) > 0


def _ended(machine):
    """The rests of a machine of which only the ends are known."""
    return [{} if kind is None else {kind: ()} for kind in machine.ends]


def _less(found, known):
    """What was found and is less than what is known: shorter, or as long and ahead in the order."""
    return {key: tokens for key, tokens in found.items() if key not in known or _rank(tokens) < _rank(known[key])}


def _rank(tokens):
    """What tells which tokens are less."""
    return len(tokens), tokens
