"""Books of directions: which ways there are for each sign, and what follows for all programs."""

from kindnotes.errors import BadWay, TooMany, UnknownSign
from kindnotes.needs import choices, part_prices
from kindnotes.programs import built, check_all_ways, check_ways, spots_of
from kindnotes.rules import first_guess, good_ways, way, way_text
from kindnotes.weights import NAME, greatest_surplus, own_need

MOST_BOOKS = 12


class Book:
    """The ways of each sign of a table."""

    def __init__(self, table):
        self.table = table
        self.ways = {}

    def __getitem__(self, sign):
        if sign not in self.table.rules:
            raise UnknownSign(sign)
        return self.ways.get(sign, ())

    def __setitem__(self, sign, ways):
        self.ways[sign] = _checked_ways(self.table[sign], ways)

    def __iadd__(self, other):
        joined = {}
        for sign in other:
            if other[sign]:
                joined[sign] = _checked_ways(self.table[sign], _joined(self[sign], other[sign]))
        # All is checked by now, so an error leaves the book as it was.
        for sign, rows in joined.items():
            self.ways[sign] = rows
        return self

    def __contains__(self, program):
        return self.need(program) == 0

    def __le__(self, other):
        greatest = greatest_surplus(self, other)
        return greatest is not None and greatest <= 0

    def __iter__(self):
        return iter(self.table.rules)

    def need(self, program, *, told=False):
        """The fewest notes to be added for a checker to pass."""
        rows = built(self.table, program)
        check_ways(self, rows)
        prices = {}
        for spot, stands in spots_of(rows):
            prices[spot] = 0 if stands else 1
        told_need, found_need = part_prices(self, rows, prices)[()]
        return told_need if told else found_need

    def lines(self):
        """A line of text for each way of each sign."""
        lines = []
        for sign in self:
            for index, row in enumerate(self[sign]):
                lines.append(f"{sign:<12}{index:>3}  {way_text(row)}")
        return lines


def full_book(table):
    """The book with all good ways of each sign."""
    book = Book(table)
    for sign in table:
        book[sign] = good_ways(table.stock, table[sign])
    return book


def quiet_signs(book):
    """The signs whose bare nodes all have the difference 0."""
    check_all_ways(book)
    names = (0,)
    # Every part is built up from names, so the first difference arises above parts without any.
    reached = (0, 1) if any([_shifts(book, sign, names) for sign in book]) else names
    return [sign for sign in book if not _shifts(book, sign, reached)]


def least_guess(book):
    """A program of least size, its notes bases, that makes a checker that is told nothing guess, or None."""
    check_all_ways(book)
    stock = book.table.stock
    note = ([word for word in stock.shapes if not stock.shapes[word]][0],)
    guesses = Guesses(book, note)
    while guesses.grow():
        pass
    return guesses.least_found()


def best_books(table):
    """The one-way books to which none is better, and only one of those that never differ."""
    best = []
    books = _one_way_books(table)
    for book in books:
        over = [other for other in books if other <= book]
        if all([book <= other for other in over]) and not any([other <= book for other in best]):
            best.append(book)
    return best


def cheapest_book(table, programs):
    """A one-way book with the least sum of the programs' found needs."""
    cheapest = None
    least = 0
    for book in _one_way_books(table):
        cost = sum([book.need(program) for program in programs])
        if cheapest is None or cost < least:
            cheapest = book
            least = cost
    return cheapest


class Guesses:
    """For each way in which a part can pass, a program of least size that does so.

    A part's state is a pair: whether a checker guesses if it is told a kind, and if it is told none; the second is
    None if the checker stands still.
    """

    def __init__(self, book, note):
        self.book = book
        self.note = note
        self.ways = {sign: _ways_that_count(book, sign) for sign in book}
        self.smallest = {(False, False): (1, NAME)}

    def grow(self):
        """Make programs from those that are known; says whether that gave new or smaller ones."""
        known = {state: self.smallest[state] for state in self.smallest}
        grown = False
        options = [(state, bears) for state in known for bears in (False, True)]
        for sign in self.book:
            places, _ = self.book.table[sign]
            for blocks in choices(options, len(places)):
                if all([place[0] is not None or not block[1] for place, block in zip(places, blocks)]):
                    grown = self._take_node(sign, blocks, known) or grown
        return grown

    def least_found(self):
        """The least program that makes a checker that is told nothing guess, or None."""
        found = None
        for told, alone in self.smallest:
            size, program = self.smallest[told, alone]
            if alone and (found is None or size < found[0]):
                found = (size, program)
        return None if found is None else found[1]

    def _take_node(self, sign, blocks, known):
        """Take in a node with these blocks, pairs (state of the part, whether the bound name bears a note)."""
        told = _guesses(self.ways[sign], blocks, True)
        if told is None:
            return False
        size = 1 + sum([known[state][0] for state, _ in blocks]) + len([block for block in blocks if block[1]])
        node = (sign, *[self._block(sign, place, block, known) for place, block in enumerate(blocks)])
        taken = self._take((told, _guesses(self.ways[sign], blocks, False)), size, node)
        # Around the node a note makes the checker go on as if it were told a kind.
        return self._take((told, told), size + 1, (":", node, self.note)) or taken

    def _block(self, sign, place, block, known):
        state, bears = block
        name = None if self.book.table[sign][0][place][0] is None else NAME
        return name, self.note if bears else None, known[state][1]

    def _take(self, state, size, program):
        if state in self.smallest and self.smallest[state][0] <= size:
            return False
        self.smallest[state] = (size, program)
        return True


def _checked_ways(rule, ways):
    """A tuple of ways that are right for a rule."""
    rows = tuple(list(ways))
    for row in rows:
        _check_way(rule[0], row)
    return rows


def _joined(ways, others):
    """The ways, and those of the others that they lack."""
    rows = list(ways)
    for row in others:
        if row not in rows:
            rows.append(row)
    return rows


def _check_way(places, row):
    """Refuse what is no way, or no way for these places of a rule."""
    if not isinstance(row, tuple) or len(row) != 3 or not isinstance(row[1], tuple) or not isinstance(row[2], tuple):
        raise BadWay("a way is a direction, its steps and its noted places")
    if not all([isinstance(step, tuple) and len(step) == 2 for step in row[1]]):
        raise BadWay("a step is a place and a direction")
    if way(whole=row[0], places=row[1], noted=row[2]) != row:
        raise BadWay("a way has its noted places in ascending order")
    if len(row[1]) != len(places) or not all([places[place][0] is not None for place in row[2]]):
        raise BadWay("a way has the places of its rule, and notes only at names that they bind")


def _shifts(book, sign, reached):
    """Whether a bare node of the sign can have the difference 1 if its parts have these differences."""
    for differences in choices(reached, len(book.table[sign][0])):
        told, found = own_need(book[sign], differences)
        if found > told:
            return True
    return False


def _one_way_books(table):
    """All books that give each sign one of its good ways."""
    rows = [()]
    for sign in table:
        ways = good_ways(table.stock, table[sign])
        rows = [(*row, chosen) for row in rows for chosen in ways]
        if len(rows) > MOST_BOOKS:
            raise TooMany("there are more than 12 one-way books")
    books = []
    for row in rows:
        book = Book(table)
        for sign, chosen in zip(table, row):
            book[sign] = (chosen,)
        books.append(book)
    return books


def _ways_that_count(book, sign):
    """The ways that can be taken, each with whether it has a guess."""
    rule = book.table[sign]
    kept = {}
    for row in book[sign]:
        whole, steps, noted = row
        found = tuple(sorted([int(place) for place, direction in steps if direction == "found"]))
        # Whether a way passes does not depend on the order of its steps, so the first of those that differ in nothing
        # else is always taken.
        if (whole, found, noted) not in kept:
            kept[whole, found, noted] = (row, first_guess(book.table.stock, rule, row) is not None)
    return list(kept.values())


def _guesses(ways, blocks, told):
    """Whether a checker guesses in a node with these blocks, or None if it stands still."""
    for (whole, steps, noted), guess in ways:
        if (told or whole == "found") and all([blocks[place][1] for place in noted]):
            states = [blocks[place][0][0 if direction == "told" else 1] for place, direction in steps]
            if None not in states:
                return guess or True in states
    return None
