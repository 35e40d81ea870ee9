"""Checkers, the kinds of names that they start from, and the judgements that they come to."""

from kindnotes.errors import KindClash, LetterUnknown, MustGuess, StandsStill, UnknownName
from kindnotes.kinds import check_kind, lies_under
from kindnotes.letters import Letters
from kindnotes.passing import standing_still, taken_ways
from kindnotes.programs import built, check_ways, free_names, noted_spots
from kindnotes.rules import first_guess


class Layer:
    """The kinds of names, and the layer that is shown again when this one is taken away."""

    def __init__(self, kinds, below):
        self.kinds = kinds
        self.below = below


class Scope:
    """The kinds of the names that are free in a program."""

    def __init__(self, stock):
        self.stock = stock
        self.layer = Layer({}, None)

    def __getitem__(self, name):
        if name not in self.layer.kinds:
            raise UnknownName(name)
        return self.layer.kinds[name]

    def __setitem__(self, name, kind):
        check_kind(self.stock, kind)
        self.layer.kinds[name] = kind

    def __contains__(self, name):
        return name in self.layer.kinds

    def __iter__(self):
        raise TypeError("a scope is asked for one name at a time")

    def bound(self, name, kind):
        """For a with block in which the name has this kind."""
        check_kind(self.stock, kind)
        return Binding(self, name, kind)


class Binding:
    """A name that has a kind inside a with block."""

    def __init__(self, scope, name, kind):
        self.scope = scope
        self.name = name
        self.kind = kind

    def __enter__(self):
        below = self.scope.layer
        self.scope.layer = Layer({**below.kinds, self.name: self.kind}, below)
        return self.scope

    def __exit__(self, kind, value, trace):
        self.scope.layer = self.scope.layer.below


class Told:
    """The judgement of a node that takes the kind that it is told."""

    def __init__(self, path, kind, filling):
        self.path = path
        self.kind = kind
        self.filling = dict(filling)


class Found:
    """The judgement of a part whose least kind is found."""

    def __init__(self, path, kind, filling):
        self.path = path
        self.kind = kind
        self.filling = dict(filling)


class Noted(Told, Found):
    """The judgement of a noted part: its part is told the note, and the note is found."""

    def __init__(self, path, kind, filling):
        super().__init__(path, kind, filling)


class Checker:
    """Goes through programs as a book says."""

    def __init__(self, book):
        self.book = book

    def __call__(self, program, scope, kind=None):
        table = self.book.table
        if kind is not None:
            check_kind(table.stock, kind)
        rows = built(table, program)
        kinds = {name: scope[name] for name in free_names(rows)}
        check_ways(self.book, rows)
        noted = noted_spots(rows)
        told = kind is not None
        spot = standing_still(self.book, rows, noted, told)
        if spot is not None:
            raise StandsStill(spot)
        taken = taken_ways(self.book, rows, noted, told)
        _check_guesses(table, rows, taken)
        judging = Judging(table, rows, taken)
        judging.judge((), kind, kinds)
        return judging.judgements


class Judging:
    """Comes to the judgements of a program, through whose nodes the taken ways lead without a guess."""

    def __init__(self, table, rows, taken):
        self.table = table
        self.cores = {row[0]: row[1] for row in rows}
        self.notes = {row[0]: row[2] for row in rows}
        self.taken = taken
        self.judgements = []

    def judge(self, path, kind, kinds):
        """Judge a part that is told a kind or None, with kinds for its free names; gives the judgement's kind."""
        core = self.cores[path]
        note = self.notes[path]
        told = kind if note is None else note
        filling = {}
        if isinstance(core, str):
            own = kinds[core]
        else:
            own, filling = self._judge_node(path, told, kinds)
        if own is not None:
            self._check_under(own, told)
        if note is not None:
            self._check_under(note, kind)
            judgement = Noted(path, note, filling)
        elif own is not None:
            judgement = Found(path, own, filling)
        else:
            judgement = Told(path, told, filling)
        self.judgements.append(judgement)
        return judgement.kind

    def _judge_node(self, path, kind, kinds):
        """The least kind of a node, or None if it has the kind that it is told, and the filling."""
        node = self.cores[path]
        places, whole = self.table[node[0]]
        direction, steps, _ = self.taken[path]
        letters = Letters(self.table.stock)
        if direction == "told":
            letters.learn(whole, kind, True)
        # A note says the exact kind of a bound name also where the way does not ask for one.
        for (bound, _), (_, note, _) in zip(places, node[1:]):
            if note is not None:
                letters.learn_exactly(bound, note)
        for place, told in steps:
            inner = self._with_bound_name(places[place][0], node[1 + place], letters, kinds)
            below = path + (place,)
            form = places[place][1]
            if told == "told":
                self.judge(below, letters.known(form, True), inner)
            else:
                letters.learn(form, self.judge(below, None, inner), False)
        own = letters.known(whole, False) if direction == "found" else None
        return own, letters.settled()

    def _with_bound_name(self, bound, block, letters, kinds):
        name, note, _ = block
        if name is None:
            return kinds
        return {**kinds, name: letters.known(bound, False) if note is None else note}

    def _check_under(self, kind, told):
        if told is not None and not lies_under(self.table.stock, kind, told):
            raise KindClash("a part does not have the kind that it should have")


def _check_guesses(table, rows, taken):
    """Refuse the first way with a guess."""
    signs = {row[0]: row[1][0] for row in rows}
    for path, way in taken.items():
        guess = first_guess(table.stock, table[signs[path]], way)
        if guess is not None:
            step, letter = guess
            raise MustGuess(path, step, letter) from LetterUnknown(letter)
