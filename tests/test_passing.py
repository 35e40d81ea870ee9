"""Points 11 and 12: which ways a checker takes, where it stands still, and where it must guess."""

import random
import unittest

import plain
from chance import some_book, some_program, some_table
from kindnotes.books import Book
from kindnotes.checking import Checker, Scope
from kindnotes.errors import KindClash, LetterUnknown, MustGuess, StandsStill
from kindnotes.rules import Table, first_guess, parse_way, rule
from sample import INT, NONE, NUM, ONE, book, call, fun, let, more, noted, same, scope, stock

FN = ("fn", INT, NUM)
NAMES = {"x": INT, "y": INT, "z": INT, "f": FN, "g": ("fn", FN, INT)}


def outcome(row, program, kind=None, names=NAMES):
    """What a check comes to: a spot, the fields of MustGuess, "clash" or the judgements."""
    try:
        return Checker(row)(program, scope(**names), kind)
    except StandsStill as error:
        return error.spot
    except MustGuess as error:
        return error.path, error.step, error.letter
    except KindClash:
        return "clash"


def small_book(places, whole, *texts, flat=False):
    """A book for one sign t, with the leaves one and none."""
    table = Table(stock(flat))
    table["t"] = rule(*places, whole=whole)
    table["one"] = rule(whole=INT)
    table["none"] = rule(whole=("list", "A"))
    row = Book(table)
    row["t"] = [parse_way(text) for text in texts]
    row["one"] = [parse_way("found: -")]
    row["none"] = [parse_way("told: -")]
    return row


class Passing(unittest.TestCase):
    def stands_at(self, spot, row, program, kind=None):
        with self.assertRaises(StandsStill) as caught:
            Checker(row)(program, scope(**NAMES), kind)
        self.assertEqual(caught.exception.spot, spot, program)

    def passes(self, row, program, kind=None):
        Checker(row)(program, scope(**NAMES), kind)

    def test_names(self):
        self.passes(book(), "x")
        self.passes(book(), "x", NUM)
        self.passes(book(), noted("x", NUM))
        self.passes(book(), noted("x", NUM), NUM)

    def test_told_ways_fit_only_if_told(self):
        self.stands_at(((), None), book(), NONE)
        self.passes(book(), NONE, ("list", INT))
        self.passes(book(), noted(NONE, ("list", INT)))
        self.passes(book(), noted(NONE, ("list", INT)), ("list", NUM))

    def test_found_ways_fit_also_if_told(self):
        self.passes(book(), ONE)
        self.passes(book(), ONE, NUM)
        self.passes(book(), call("f", "x"))
        self.passes(book(), call("f", "x"), NUM)

    def test_noted_names(self):
        only_found = book(fun=["found: 0 found; noted 0"])
        self.stands_at(((), 0), only_found, fun("x", "x"))
        self.stands_at(((), 0), only_found, fun("x", "x"), FN)
        self.passes(only_found, fun("x", "x", INT))
        self.passes(only_found, fun("x", "x", INT), FN)
        self.stands_at(((), 0), book(), fun("x", "x"))
        self.passes(book(), fun("x", "x"), FN)

    def test_a_note_at_another_spot_does_not_help(self):
        self.stands_at(((), 0), book(), fun("x", noted("x", INT)))
        self.stands_at(((), 1), book(let=["found: 0 found, 1 found; noted 1"]), let("y", noted("x", INT), "y"))
        self.stands_at(((0,), 0), book(), more(fun("x", "x"), noted(NONE, ("list", FN))))

    def test_the_first_noted_name_without_a_note(self):
        places = [("A", "A"), ("B", "B"), ("A", "B")]
        row = small_book(places, "A", "found: 2 found, 1 found, 0 found; noted 0, 1, 2")
        for first in (0, 1, 2):
            blocks = [("a", INT if at < first else None, "x") for at in range(3)]
            self.stands_at(((), first), row, ("t", *blocks))
        self.stands_at(((), 1), row, ("t", ("a", INT, "x"), ("a", None, "x"), ("a", INT, "x")))
        self.stands_at(((), 0), row, ("t", ("a", None, "x"), ("a", INT, "x"), ("a", INT, "x")))
        self.passes(row, ("t", *[("a", INT, "x")] * 3))

    def test_noted_names_come_before_the_steps(self):
        row = small_book([(None, "A"), ("A", "B")], "B", "found: 0 found, 1 found; noted 1")
        self.stands_at(((), 1), row, ("t", (None, None, NONE), ("a", None, NONE)))
        self.stands_at(((0,), None), row, ("t", (None, None, NONE), ("a", INT, NONE)))
        self.stands_at(((1,), None), row, ("t", (None, None, ONE), ("a", INT, NONE)))

    def test_parts_come_in_the_order_of_the_steps(self):
        for texts, place in ((["found: 0 found, 1 found"], 0), (["found: 1 found, 0 found"], 1)):
            row = book(call=texts)
            self.stands_at(((place,), None), row, call(NONE, NONE))
        row = book(same=["found: 2 found, 0 told, 1 found"])
        self.stands_at(((2,), None), row, same(NONE, NONE, NONE))
        self.stands_at(((1,), None), row, same(NONE, NONE, "x"))
        self.stands_at(((1,), None), row, same(NONE, NONE, noted(NONE, ("list", INT))))

    def test_inside_the_part_that_does_not_pass(self):
        self.stands_at(((0, 0, 0), 0), book(), call(call(call(fun("x", "x"), "y"), "y"), "y"))
        self.stands_at(((0, 1), None), book(call=["found: 0 found, 1 found"]), call(call("g", NONE), "x"))
        self.stands_at(((0, 0), None), book(), call(call(NONE, "x"), "x"))

    def test_a_noted_part_passes_if_its_part_passes_told(self):
        found = book(call=["found: 0 found, 1 told"])
        inner = noted(fun("x", call(NONE, "x"), INT), FN)
        self.stands_at(((0, 0), None), found, inner)
        self.stands_at(((0, 0, 0, 0), None), found, noted(fun("x", call(inner, "x"), INT), FN))
        self.stands_at(((), 0), found, noted(fun("x", call(NONE, "x")), FN))
        self.passes(book(), call(noted(fun("x", NONE), ("fn", INT, ("list", INT))), "x"))
        self.stands_at(((0,), 0), book(), call(fun("x", NONE), "x"))
        self.stands_at(((0, 0), None), book(), call(fun("x", NONE, INT), "x"))
        self.passes(book(), call(fun("x", noted(NONE, ("list", INT)), INT), "x"))

    def test_the_first_fitting_way_that_passes(self):
        # The first way passes only with a note, the second is a guess.
        row = book(fun=["found: 0 found; noted 0", "found: 0 found", "told: 0 told"])
        self.assertEqual(outcome(row, fun("x", "x")), ((), 0, "A"))
        self.passes(row, fun("x", "x", INT))
        self.assertEqual(outcome(row, fun("x", "x"), FN), ((), 0, "A"))
        turned = book(fun=["told: 0 told", "found: 0 found", "found: 0 found; noted 0"])
        self.passes(turned, fun("x", "x"), FN)
        self.assertEqual(outcome(turned, fun("x", "x")), ((), 0, "A"))
        self.assertEqual(outcome(turned, fun("x", "x", INT)), ((), 0, "A"))

    def test_a_way_passes_as_its_parts_do(self):
        row = book(call=["found: 0 found, 1 found", "found: 0 found, 1 told"])
        self.assertEqual([judged.path for judged in outcome(row, call("f", ONE))], [(0,), (1,), ()])
        row = book(call=["found: 1 found, 0 told", "found: 0 found, 1 told"])
        self.assertEqual(outcome(row, call("f", ONE)), ((), 1, "B"))
        part = noted(NONE, ("list", INT))
        self.assertEqual(outcome(row, call("f", part)), ((), 1, "B"))
        names = {"f": ("fn", ("list", INT), INT)}
        self.assertEqual([judged.path for judged in outcome(row, call("f", NONE), names=names)], [(0,), (1,), ()])

    def test_where_it_stands_still_if_several_ways_fit(self):
        row = book(call=["told: 1 found, 0 told", "found: 0 found, 1 found", "found: 1 found, 0 found"])
        self.stands_at(((0,), None), row, call(NONE, NONE))
        self.stands_at(((1,), None), row, call(NONE, NONE), INT)
        row = book(fun=["told: 0 found", "found: 0 found; noted 0", "found: 0 found"])
        self.stands_at(((0,), None), row, fun("x", NONE), FN)
        self.stands_at(((), 0), row, fun("x", NONE))
        self.stands_at(((0,), None), row, fun("x", NONE, INT))

    def test_told_nodes_in_parts(self):
        row = book(more=["found: 0 found, 1 told"])
        self.assertEqual(outcome(row, more("x", NONE)), ((), 1, "A"))
        self.stands_at(((0,), None), row, more(NONE, NONE))
        self.stands_at(((1, 0), None), row, more("x", more(NONE, NONE)))
        self.passes(book(), more("x", noted(NONE, ("list", INT))))
        self.stands_at(((1,), None), book(more=["found: 0 found, 1 found"]), more("x", NONE))

    def test_only_told_ways(self):
        row = book(call=["told: 0 told, 1 told"])
        self.stands_at(((), None), row, call(NONE, NONE))
        self.assertEqual(outcome(row, call(NONE, NONE), INT), ((), 0, "A"))

    def test_books_by_chance(self):
        chance = random.Random(5)
        for _ in range(40):
            table = some_table(chance, chance.random() < 0.5)
            row = some_book(chance, table)
            names = Scope(table.stock)
            for name in "xyz":
                names[name] = ("i",)
            for _ in range(25):
                program = some_program(chance, table, chance.choice((2, 3)), chance.choice((0, 0.2, 0.5)), [("i",)])
                for kind in (None, ("i",)):
                    self.compare(row, names, program, kind)

    def compare(self, row, names, program, kind):
        ways = {sign: row[sign] for sign in row}
        told = kind is not None
        spot = plain.still_at(ways, program, told)
        try:
            Checker(row)(program, names, kind)
            found = None
        except StandsStill as error:
            self.assertEqual(error.spot, spot)
            return
        except KindClash:
            found = None
        except MustGuess as error:
            found = (error.path, error.step, error.letter)
        self.assertIsNone(spot)
        guesses = []
        for path, taken in plain.taken(ways, program, told, plain.noted_spots(program)):
            sign = plain.part_at(program, path)[0]
            guess = first_guess(row.table.stock, row.table[sign], taken)
            if guess is not None:
                guesses.append((path, *guess))
        self.assertEqual(found, guesses[0] if guesses else None)


class Guessing(unittest.TestCase):
    def guesses(self, row, program, kind=None, names=NAMES):
        with self.assertRaises(MustGuess) as caught:
            Checker(row)(program, scope(**names), kind)
        error = caught.exception
        self.assertIsInstance(error.__cause__, LetterUnknown)
        self.assertEqual(error.__cause__.letter, error.letter)
        return error.path, error.step, error.letter

    def test_the_fields(self):
        self.assertEqual(self.guesses(book(none=["found: -"]), NONE), ((), 0, "A"))
        self.assertEqual(self.guesses(book(fun=["found: 0 found"]), fun("x", "x")), ((), 0, "A"))
        self.assertEqual(self.guesses(book(call=["found: 1 found, 0 told"]), call("f", "x")), ((), 1, "B"))
        self.assertEqual(self.guesses(book(call=["found: 1 told, 0 found"]), call("f", "x")), ((), 0, "A"))
        self.assertEqual(self.guesses(book(fun=["found: 0 told; noted 0"]), fun("x", "x", INT)), ((), 0, "B"))

    def test_a_note_does_not_make_a_way_good(self):
        self.assertEqual(self.guesses(book(fun=["found: 0 found"]), fun("x", "x", INT)), ((), 0, "A"))
        self.assertEqual(self.guesses(book(none=["found: -"]), noted(NONE, ("list", INT))), ((), 0, "A"))

    def test_a_guess_at_the_whole(self):
        row = small_book([(None, "A"), (None, INT)], "B", "found: 1 told, 0 found")
        program = ("t", (None, None, "x"), (None, None, "x"))
        self.assertEqual(self.guesses(row, program), ((), 2, "B"))

    def test_a_node_before_its_parts(self):
        row = book(call=["found: 1 told, 0 found"], none=["found: -"])
        self.assertEqual(self.guesses(row, call(NONE, NONE)), ((), 0, "A"))
        self.assertEqual(self.guesses(book(none=["found: -"]), call("f", fun("x", NONE))), ((1, 0), 0, "A"))

    def test_parts_in_the_order_of_the_steps(self):
        row = book(none=["found: -"])
        self.assertEqual(self.guesses(row, call(NONE, NONE)), ((0,), 0, "A"))
        row = book(none=["found: -"], call=["found: 1 found, 0 found"])
        self.assertEqual(self.guesses(row, call(NONE, NONE)), ((1,), 0, "A"))
        row = book(none=["found: -"], same=["found: 1 found, 2 found, 0 found"])
        self.assertEqual(self.guesses(row, same(NONE, fun("x", NONE, INT), NONE)), ((1, 0), 0, "A"))
        self.assertEqual(self.guesses(row, same(NONE, "x", NONE)), ((2,), 0, "A"))
        self.assertEqual(self.guesses(row, same(NONE, "x", "x")), ((0,), 0, "A"))

    def test_all_inside_an_earlier_part_comes_first(self):
        row = book(none=["found: -"], call=["found: 1 found, 0 found"])
        program = call(NONE, call("f", call(fun("x", NONE, INT), "x")))
        self.assertEqual(self.guesses(row, program), ((1, 1, 0, 0), 0, "A"))

    def test_told_nodes(self):
        row = book(none=["found: -", "told: -"])
        self.assertEqual(self.guesses(row, NONE, ("list", INT)), ((), 0, "A"))
        row = book(none=["told: -", "found: -"])
        self.assertEqual(outcome(row, NONE, ("list", INT))[0].kind, ("list", INT))
        self.assertEqual(self.guesses(row, NONE), ((), 0, "A"))
        self.assertEqual(outcome(row, noted(NONE, ("list", INT)))[0].kind, ("list", INT))

    def test_no_guess_where_it_stands_still(self):
        row = book(fun=["found: 0 found"])
        self.assertEqual(outcome(row, fun("x", NONE)), ((0,), None))


if __name__ == "__main__":
    unittest.main()
