"""A small language of functions, lists and pairs, which many tests use."""

from kindnotes.books import Book, full_book
from kindnotes.checking import Scope
from kindnotes.kinds import Stock
from kindnotes.rules import Table, parse_way, rule

SHAPES = {"int": "", "num": "", "text": "", "list": "+", "sink": "-", "fn": "-+", "pair": "++"}
INT, NUM, TEXT = ("int",), ("num",), ("text",)


def stock(flat=False):
    return Stock(SHAPES, {} if flat else {"int": "num"})


def table(flat=False):
    """The signs fun, call, one, none, more, let and same."""
    made = Table(stock(flat))
    made["fun"] = rule(("A", "B"), whole=("fn", "A", "B"))
    made["call"] = rule((None, ("fn", "A", "B")), (None, "A"), whole="B")
    made["one"] = rule(whole=INT)
    made["none"] = rule(whole=("list", "A"))
    made["more"] = rule((None, "A"), (None, ("list", "A")), whole=("list", "A"))
    made["let"] = rule((None, "A"), ("A", "B"), whole="B")
    made["same"] = rule((None, "A"), (None, "A"), (None, "A"), whole="A")
    return made


def book(flat=False, **texts):
    """The full book, or one in which some signs have the ways with these texts."""
    made = full_book(table(flat))
    for sign, rows in texts.items():
        made[sign] = [parse_way(text) for text in rows]
    return made


def empty_book(flat=False):
    return Book(table(flat))


def scope(flat=False, **kinds):
    made = Scope(stock(flat))
    for name, kind in kinds.items():
        made[name] = kind
    return made


def fun(name, part, note=None):
    return "fun", (name, note, part)


def call(one, other):
    return "call", (None, None, one), (None, None, other)


def more(one, other):
    return "more", (None, None, one), (None, None, other)


def let(name, one, other, note=None):
    return "let", (None, None, one), (name, note, other)


def same(*parts):
    return "same", *[(None, None, part) for part in parts]


def noted(part, kind):
    return ":", part, kind


ONE = ("one",)
NONE = ("none",)
