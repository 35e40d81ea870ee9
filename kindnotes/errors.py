"""The errors of kindnotes, each for one kind of failure."""


class NotesError(ValueError):
    """Any error that kindnotes raises."""


class BadKind(NotesError):
    """A word, form, kind or stock is not right, or a form does not fit its stock."""


class BadRule(NotesError):
    """A kind rule is not right, or a table cannot take it."""


class BadWay(NotesError):
    """A way or its text is not right, or a rule does not fit it."""


class BadProgram(NotesError):
    """A program is not built as its table asks."""


class BadPrices(NotesError):
    """There is not one right price for each spot."""


class TooMany(NotesError):
    """There are too many one-way books to compare."""


class KindClash(NotesError):
    """A program does not have the kind that it should have."""


class LetterUnknown(NotesError):
    """A letter has no form or kind yet."""

    def __init__(self, letter):
        super().__init__(f"nothing is known of the letter {letter}")
        self.letter = letter


class UnknownSign(NotesError):
    """A table has no such sign."""

    def __init__(self, sign):
        super().__init__(f"the table has no sign {sign}")
        self.sign = sign


class UnknownName(NotesError):
    """A free name has no kind."""

    def __init__(self, name):
        super().__init__(f"the name {name} has no kind")
        self.name = name


class NoWay(NotesError):
    """A book has no ways for a sign."""

    def __init__(self, sign):
        super().__init__(f"the book has no ways for the sign {sign}")
        self.sign = sign


class StandsStill(NotesError):
    """A checker cannot go on without a note at a spot."""

    def __init__(self, spot):
        super().__init__(f"the checker stands still at {spot}")
        self.spot = spot


class MustGuess(NotesError):
    """A checker would have to guess a letter at the node with this path."""

    def __init__(self, path, step, letter):
        super().__init__(f"the letter {letter} must be guessed at step {step} of the node at {path}")
        self.path = path
        self.step = step
        self.letter = letter
