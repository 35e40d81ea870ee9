"""Forms, and the kinds of a stock with their order.

Kinds may be far deeper than Python's calls may go, so nothing here calls itself: each walk keeps a list of what is
still to do, and a form is put together again from the list of its words, read from the right.
"""

from kindnotes.errors import BadKind, LetterUnknown

SMALL = "abcdefghijklmnopqrstuvwxyz"
CAPITAL = "ABCDEFGHIJKLMNOPQRSTUVWXYZ"


def is_word(text):
    """Whether this is a word."""
    return isinstance(text, str) and 1 <= len(text) <= 12 and all([mark in SMALL for mark in text])


def is_letter(text):
    """Whether this is a letter."""
    return isinstance(text, str) and len(text) == 1 and text in CAPITAL


def is_form(row):
    """Whether this is a form."""
    todo = [row]
    while todo:
        part = todo.pop()
        if is_letter(part):
            continue
        if not isinstance(part, tuple) or not 1 <= len(part) <= 4 or not is_word(part[0]):
            return False
        todo.extend(part[1:])
    return True


def form(word, *parts):
    """The form with this word and these parts."""
    row = (word, *parts)
    if not is_form(row):
        raise BadKind("a form is a word and up to three forms")
    return row


def fill(form, filling):
    """The form with its letters replaced by their forms in the dict."""
    heads = []
    for part in _walk(form):
        if not isinstance(part, str):
            heads.append((part[0], len(part) - 1))
        elif part in filling:
            heads.append((filling[part], None))
        else:
            raise LetterUnknown(part)
    return _assembled(heads)


def sided_letters(stock, form):
    """The letters of a form from the left, as pairs (letter, whether it is straight)."""
    letters = []
    todo = [(form, True)]
    while todo:
        part, straight = todo.pop()
        if isinstance(part, str):
            letters.append((part, straight))
        else:
            marks = stock.shapes[part[0]]
            below = [(deeper, straight == (mark == "+")) for deeper, mark in zip(part[1:], marks)]
            todo.extend(below[::-1])
    return letters


class Stock:
    """The words that kinds are made of, and the order of the bases."""

    def __init__(self, shapes, under=None):
        self.shapes = dict(shapes)
        self.under = {} if under is None else dict(under)
        _check_shapes(self.shapes)
        _check_under(self.shapes, self.under)
        self.chains = {word: _chain(word, self.under) for word in self.shapes}

    @property
    def flat(self):
        """Whether no base lies under another."""
        return not self.under

    def fits(self, form):
        """Whether the words of a form are in the stock, with as many parts as marks."""
        if not is_form(form):
            return False
        for part in _walk(form):
            if isinstance(part, str):
                continue
            if part[0] not in self.shapes or len(self.shapes[part[0]]) != len(part) - 1:
                return False
        return True


class Kind:
    """A kind of a stock, to be compared with others of it."""

    def __init__(self, stock, row):
        check_kind(stock, row)
        self.stock = stock
        self.row = row

    def __le__(self, other):
        return lies_under(self.stock, self.row, other.row)

    def __or__(self, other):
        row = least_over(self.stock, self.row, other.row)
        return None if row is None else Kind(self.stock, row)

    def __and__(self, other):
        row = greatest_under(self.stock, self.row, other.row)
        return None if row is None else Kind(self.stock, row)


def is_kind(row):
    """Whether this is a form without letters."""
    return is_form(row) and not any([isinstance(part, str) for part in _walk(row)])


def check_kind(stock, row):
    """Refuse what is no kind of the stock."""
    if not is_kind(row):
        raise BadKind("a kind is a form without letters")
    if not stock.fits(row):
        raise BadKind("the kind does not fit the stock")


def lies_under(stock, low, high):
    """Whether one kind lies under another."""
    todo = [(low, high)]
    while todo:
        one, other = todo.pop()
        if other[0] not in stock.chains[one[0]]:
            return False
        for mark, mine, its in zip(stock.shapes[one[0]], one[1:], other[1:]):
            todo.append((mine, its) if mark == "+" else (its, mine))
    return True


def least_over(stock, one, other):
    """The least kind over both, or None."""
    return _between(stock, one, other, True)


def greatest_under(stock, one, other):
    """The greatest kind under both, or None."""
    return _between(stock, one, other, False)


def kinds_of_size(stock, size):
    """The kinds with so many words, each once."""
    sums = _sums_of_parts(stock, size)
    todo = [((), 1)]
    while todo:
        words, places = todo.pop()
        left = size - len(words)
        if left == 0 and places == 0:
            yield _assembled([(word, len(stock.shapes[word])) for word in words])
        # Each open place takes a word, so the words beyond that must be parts of others; without this test the
        # search would walk through countless beginnings that lead to no kind.
        elif 0 < places <= left and sums[left - places]:
            for word, marks in stock.shapes.items():
                todo.append(((*words, word), places - 1 + len(marks)))


def _walk(form):
    """The form and all forms inside it, from the left."""
    seen = []
    todo = [form]
    while todo:
        part = todo.pop()
        seen.append(part)
        if not isinstance(part, str):
            todo.extend(part[:0:-1])
    return seen


def _assembled(heads):
    """The form that these heads make, from the left: (word, number of parts), or (form, None) for a whole form."""
    built = []
    for head, count in reversed(list(heads)):
        if count is None:
            built.append(head)
        else:
            parts = [built.pop() for _ in range(count)]
            built.append((head, *parts))
    return built[0]


def _is_marks(marks):
    return len(marks) <= 3 and all([mark in "+-" for mark in marks])


def _check_shapes(shapes):
    if len(shapes) > 12:
        raise BadKind("a stock has at most 12 words")
    for word, marks in shapes.items():
        if not is_word(word) or not _is_marks(marks):
            raise BadKind("a stock gives words up to three marks + and -")
    if len([word for word in shapes if shapes[word] == ""]) < 2:
        raise BadKind("a stock has at least two bases")


def _check_under(shapes, under):
    for word, above in under.items():
        if shapes.get(word) != "" or shapes.get(above) != "":
            raise BadKind("only bases lie under each other")


def _chain(word, under):
    """The word and all that is reached from it by going up."""
    chain = [word]
    while chain[-1] in under:
        above = under[chain[-1]]
        if above in chain:
            raise BadKind("going up leads back")
        chain.append(above)
    return tuple(chain)


def _between(stock, one, other, over):
    """The kind next to both, over or under them, or None."""
    heads = []
    todo = [(one, other, over)]
    while todo:
        mine, its, up = todo.pop()
        word = _next_word(stock.chains, mine[0], its[0], up)
        if word is None:
            return None
        marks = stock.shapes[word]
        heads.append((word, len(marks)))
        pairs = [(a, b, up == (mark == "+")) for mark, a, b in zip(marks, mine[1:], its[1:])]
        todo.extend(pairs[::-1])
    return _assembled(heads)


def _next_word(chains, one, other, up):
    """The word next to both, over or under them, or None."""
    if not up:
        # Going up from a base under both would pass them both, so one of them lies under the other.
        if other in chains[one]:
            return one
        return other if one in chains[other] else None
    for word in chains[one]:
        if word in chains[other]:
            return word
    return None


def _sums_of_parts(stock, limit):
    """For each number up to the limit, whether some words together have so many parts."""
    counts = [len(marks) for marks in stock.shapes.values() if marks]
    sums = [True]
    for total in range(1, limit + 1):
        sums.append(any([count <= total and sums[total - count] for count in counts]))
    return sums
