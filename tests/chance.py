"""Languages, books and programs made by chance, from a fixed start, for the tests."""

from itertools import permutations, product

from kindnotes.books import Book
from kindnotes.kinds import Stock
from kindnotes.rules import Table, first_guess, good_ways, rule, way
from plain import Language

SHAPES = {"i": "", "n": "", "b": "", "list": "+", "sink": "-", "fn": "-+"}
UNDER = {"i": "n"}
SIGNS = ("one", "two", "three", "four")
DIRECTIONS = ("told", "found")


def some_form(chance, letters, depth):
    if depth == 0 or chance.random() < 0.6:
        return chance.choice(letters) if chance.random() < 0.8 else (chance.choice("in"),)
    word = chance.choice(("list", "sink", "fn"))
    return (word, *[some_form(chance, letters, depth - 1) for _ in SHAPES[word]])


def some_rule(chance, depth=1):
    count = chance.choice((0, 1, 1, 2, 2, 3))
    places = []
    for _ in range(count):
        bound = some_form(chance, "AAB", depth) if chance.random() < 0.4 else None
        places.append((bound, some_form(chance, "AAB", depth)))
    return rule(*places, whole=some_form(chance, "AAB", depth))


def some_table(chance, flat, depth=1):
    stock = Stock(SHAPES, {} if flat else UNDER)
    table = Table(stock)
    for sign in SIGNS[:chance.choice((2, 3, 3, 4))]:
        table[sign] = some_rule(chance, depth)
    return table


def language_of(table):
    return Language(table.stock.shapes, table.stock.under, {sign: table[sign] for sign in table})


def all_ways(row_rule):
    """All ways of a rule."""
    places = range(len(row_rule[0]))
    binding = [place for place in places if row_rule[0][place][0] is not None]
    rows = []
    for whole in DIRECTIONS:
        for order in permutations(places):
            for directions in product(DIRECTIONS, repeat=len(order)):
                for taken in product((False, True), repeat=len(binding)):
                    noted = [place for place, chosen in zip(binding, taken) if chosen]
                    rows.append(way(whole=whole, places=list(zip(order, directions)), noted=noted))
    return rows


def some_book(chance, table, most=4):
    """A book with some ways of each sign, good or not."""
    book = Book(table)
    for sign in table:
        rows = all_ways(table[sign])
        book[sign] = [chance.choice(rows) for _ in range(chance.randint(1, most))]
    return book


def good_book(chance, table, most=6):
    """A book with some ways of each sign that are all good, in any order."""
    book = Book(table)
    for sign in table:
        rows = [row for row in all_ways(table[sign]) if first_guess(table.stock, table[sign], row) is None]
        rows = chance.sample(rows, min(len(rows), most)) + good_ways(table.stock, table[sign])
        chance.shuffle(rows)
        book[sign] = rows[:chance.randint(1, most)]
    return book


def some_program(chance, table, depth, notes, kinds, bare_share=0.25):
    """A program whose names are x, y and z, with a note at a spot as often as is said."""
    if depth == 0 or chance.random() < bare_share:
        part = chance.choice("xyz")
    else:
        sign = chance.choice(list(table))
        blocks = []
        for bound, _ in table[sign][0]:
            name = None if bound is None else chance.choice("xy")
            note = chance.choice(kinds) if name is not None and chance.random() < notes else None
            blocks.append((name, note, some_program(chance, table, depth - 1, notes, kinds, bare_share)))
        part = (sign, *blocks)
    return (":", part, chance.choice(kinds)) if chance.random() < notes else part
