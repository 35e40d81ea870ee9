"""Point 14: which error comes first, where a check has several."""

import unittest

from kindnotes.books import least_guess, quiet_signs
from kindnotes.checking import Checker
from kindnotes.errors import (BadKind, BadPrices, BadProgram, KindClash, MustGuess, NotesError, NoWay, StandsStill,
                              UnknownName, UnknownSign)
from kindnotes.notes import Notes
from kindnotes.weights import compare, least_worse
from sample import INT, NONE, NUM, ONE, TEXT, book, call, empty_book, fun, let, noted, same, scope

NAMES = {"x": INT, "y": NUM, "f": ("fn", INT, NUM)}
ODD = ("odd",)
CLASH = call("f", "y")
GUESS = NONE
STILL = fun("x", "x")
UNKNOWN = "unknown"
NO_WAY = let("x", "x", "x")


def full():
    """A book that has none for let and guesses for none."""
    row = book(none=["found: -"])
    row["let"] = ()
    return row


class Order(unittest.TestCase):
    def first(self, error, program, kind=None, row=None):
        names = scope(**NAMES)
        with self.assertRaises(NotesError) as caught:
            Checker(row or full())(program, names, kind)
        self.assertIs(caught.exception.__class__, error, f"{program} {caught.exception!r}")
        self.assertEqual({name: names[name] for name in NAMES}, NAMES)
        self.assertNotIn("a", names)
        self.assertNotIn(UNKNOWN, names)
        return caught.exception

    def test_each_alone(self):
        self.first(BadKind, "x", ODD)
        self.first(UnknownSign, ODD)
        self.first(BadProgram, ("call",))
        self.first(BadKind, noted("x", ODD))
        self.first(UnknownName, UNKNOWN)
        self.first(NoWay, NO_WAY)
        self.first(StandsStill, STILL)
        self.first(MustGuess, GUESS)
        self.first(KindClash, CLASH)

    def test_the_told_kind_comes_before_all_others(self):
        for kind in (ODD, ("list",), ("int", INT), "A", ("list", "A")):
            for program in (ODD, ("call",), "X", noted(noted("x", INT), INT), UNKNOWN, NO_WAY, STILL, GUESS, CLASH):
                self.first(BadKind, program, kind)

    def test_a_program_that_is_not_built_comes_before_names(self):
        for bad, error in ((ODD, UnknownSign), (("call",), BadProgram), (noted("x", ODD), BadKind)):
            for other in (UNKNOWN, NO_WAY, STILL, GUESS, CLASH):
                self.first(error, same(other, "x", bad))
                self.first(error, same(bad, "x", other))

    def test_names_come_before_ways(self):
        for other in (NO_WAY, STILL, GUESS, CLASH):
            self.assertEqual(self.first(UnknownName, same(other, other, UNKNOWN)).name, UNKNOWN)
            self.assertEqual(self.first(UnknownName, same(UNKNOWN, other, other)).name, UNKNOWN)

    def test_ways_come_before_standing_still(self):
        for other in (STILL, GUESS, CLASH):
            self.assertEqual(self.first(NoWay, same(other, "x", NO_WAY)).sign, "let")
            self.assertEqual(self.first(NoWay, same(NO_WAY, "x", other)).sign, "let")

    def test_standing_still_comes_before_guessing(self):
        row = book(none=["found: -"])
        for other in (GUESS, CLASH):
            self.first(StandsStill, same("x", STILL, other), None, row)
            self.first(StandsStill, same("x", other, STILL), None, row)
            self.assertEqual(self.first(StandsStill, same("x", other, STILL), None, row).spot, ((2,), 0))

    def test_guessing_comes_before_clashes(self):
        row = book(none=["found: -"])
        self.assertEqual(self.first(MustGuess, same("x", CLASH, GUESS), None, row).path, (2,))
        self.assertEqual(self.first(MustGuess, same("x", GUESS, CLASH), None, row).path, (1,))
        self.first(MustGuess, GUESS, INT, row)
        self.first(MustGuess, noted(GUESS, INT), TEXT, row)

    def test_the_first_node_without_a_way_in_the_walk(self):
        row = book()
        for sign in ("call", "one", "none"):
            row[sign] = ()
        self.assertEqual(self.first(NoWay, same("x", call(ONE, NONE), NONE), None, row).sign, "call")
        self.assertEqual(self.first(NoWay, same(ONE, call(ONE, NONE), NONE), None, row).sign, "one")
        self.assertEqual(self.first(NoWay, same("x", fun("a", noted(NONE, INT)), ONE), None, row).sign, "none")
        self.assertEqual(self.first(NoWay, noted(call(ONE, "x"), INT), INT, row).sign, "call")


class OtherTakers(unittest.TestCase):
    def takers(self, row):
        return [lambda program: row.need(program), lambda program: row.need(program, told=True),
                lambda program: program in row, lambda program: Notes(row, program),
                lambda program: Notes(row, program, [0, "no"])]

    def test_built_comes_before_ways(self):
        for taker in self.takers(full()):
            for bad, error in ((ODD, UnknownSign), (("call",), BadProgram), (noted("x", ODD), BadKind)):
                for program in (same(NO_WAY, "x", bad), same(bad, NO_WAY, "x")):
                    with self.assertRaises(error):
                        taker(program)

    def test_ways(self):
        for taker in self.takers(full()):
            with self.assertRaises(NoWay) as caught:
                taker(same(UNKNOWN, fun("x", NO_WAY), STILL))
            self.assertEqual(caught.exception.sign, "let")

    def test_the_first_in_the_walk(self):
        row = full()
        for sign in ("one", "same"):
            row[sign] = ()
        for taker in self.takers(row):
            with self.assertRaises(NoWay) as caught:
                taker(call(let("x", ONE, same("x", "x", "x")), ONE))
            self.assertEqual(caught.exception.sign, "let")

    def test_prices_come_last(self):
        with self.assertRaises(BadPrices):
            Notes(full(), same("x", "x", GUESS), [0, "no"])

    def test_notes_after_the_book_has_lost_a_way(self):
        row = book()
        notes = Notes(row, let("x", "x", STILL))
        self.assertEqual(notes.least(), 1)
        row["fun"] = ()
        for asked in (notes.least, lambda: list(notes.lots()), lambda: notes.still(())):
            with self.assertRaises(NoWay) as caught:
                asked()
            self.assertEqual(caught.exception.sign, "fun")

    def test_what_answers_for_all_programs(self):
        whole, lacking, nothing = book(), full(), empty_book()
        for asked in (lambda: quiet_signs(lacking), lambda: least_guess(lacking), lambda: compare(lacking, whole),
                      lambda: compare(whole, lacking), lambda: least_worse(lacking, whole),
                      lambda: least_worse(whole, lacking), lambda: lacking <= whole, lambda: whole <= lacking):
            with self.assertRaises(NoWay) as caught:
                asked()
            self.assertEqual(caught.exception.sign, "let")
        for asked in (lambda: quiet_signs(nothing), lambda: least_guess(nothing), lambda: compare(nothing, nothing),
                      lambda: least_worse(nothing, nothing), lambda: nothing <= nothing):
            with self.assertRaises(NoWay):
                asked()


if __name__ == "__main__":
    unittest.main()
