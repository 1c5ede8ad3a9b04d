"""States that words and groups lead to, where any signs may stand between them."""

from silentslips.pairs import leads_of


class Quiet:
    """The states of a book's forms, read without a look at the signs."""

    def __init__(self, book):
        self._book = book
        self._leads = {form: leads_of(book.machine(form)) for form in book.forms}

    def begun(self, form):
        """The states at the beginning of a row, ascending."""
        return self._widened(form, [0])

    def led(self, form, states, symbol, role):
        """The states behind a word or a group with this role, ascending."""
        machine = self._book.machine(form)
        found = []
        for state in states:
            step = machine.go(state, symbol)
            if step is not None and step[0] == role:
                found.append(step[1])
        return self._widened(form, found)

    def _widened(self, form, states):
        """The states, and those to which signs lead from them."""
        todo = list(states)
        found = {state: True for state in todo}
        while todo:
            for symbol, _, after in self._leads[form][todo.pop()]:
                if symbol in self._book.signs and after not in found:
                    found[after] = True
                    todo.append(after)
        return tuple(sorted(found))
