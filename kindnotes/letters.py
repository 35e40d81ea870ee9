"""What is known of the letters of a rule while a checker goes through a node."""

from kindnotes.errors import KindClash
from kindnotes.kinds import fill, greatest_under, least_over, lies_under, sided_letters


class Letters:
    """The letters of a rule, each with a kind that it lies over and one that it lies under, as far as known."""

    def __init__(self, stock):
        self.stock = stock
        self.low = {}
        self.high = {}
        self.used = {}

    def learn(self, form, kind, above):
        """Take in that the filled form lies under a kind that is told from above, or else over it."""
        if self.stock.flat:
            self.learn_exactly(form, kind)
        else:
            self._bound(form, kind, above)

    def learn_exactly(self, form, kind):
        """Take in that the filled form is a kind."""
        self._bound(form, kind, True)
        self._bound(form, kind, False)

    def known(self, form, above):
        """The greatest kind that the form can be filled to (looked at from above), or the least."""
        filling = {}
        for letter, straight in sided_letters(self.stock, form):
            up = straight == above
            self.used[letter] = up
            filling[letter] = self.high[letter] if up else self.low[letter]
        return fill(form, filling)

    def settled(self):
        """A kind for each letter that agrees with all that is known, and with all uses."""
        settled = {}
        for letter in [*self.low, *self.high]:
            up = self.used.get(letter, letter not in self.low)
            settled[letter] = self.high[letter] if up else self.low[letter]
        return settled

    def _bound(self, form, kind, above):
        todo = [(form, kind, above)]
        while todo:
            part, known, up = todo.pop()
            if isinstance(part, str):
                self._narrow(part, known, up)
                continue
            low, high = (part, known) if up else (known, part)
            if high[0] not in self.stock.chains[low[0]]:
                raise KindClash(f"a kind of {known[0]} does not go with a form of {part[0]}")
            for mark, inner, its in zip(self.stock.shapes[part[0]], part[1:], known[1:]):
                todo.append((inner, its, up == (mark == "+")))

    def _narrow(self, letter, kind, above):
        bounds = self.high if above else self.low
        if letter in bounds:
            known = bounds[letter]
            kind = greatest_under(self.stock, known, kind) if above else least_over(self.stock, known, kind)
            if kind is None:
                raise KindClash(f"the letter {letter} has no kind that goes with all that is known")
        bounds[letter] = kind
        if letter in self.low and letter in self.high:
            if not lies_under(self.stock, self.low[letter], self.high[letter]):
                raise KindClash(f"the letter {letter} has no kind that goes with all that is known")
