"""Point 15: needs, least lots and prices."""

import random
import unittest
from itertools import islice

import plain
from chance import some_book, some_program, some_table
from kindnotes.errors import BadPrices
from kindnotes.notes import Notes, spots
from kindnotes.rules import parse_way
from sample import INT, NONE, NUM, ONE, book, call, fun, let, more, noted, same

FUN = fun("x", "x")


class Need(unittest.TestCase):
    def needs(self, program, told, found, row=None):
        row = row or book()
        self.assertEqual(row.need(program, told=True), told, program)
        self.assertEqual(row.need(program, told=False), found, program)
        self.assertEqual(row.need(program), found, program)
        self.assertIs(program in row, found == 0)
        notes = Notes(row, program)
        self.assertEqual(notes.least(told=True), told, program)
        self.assertEqual(notes.least(told=False), found, program)
        self.assertEqual(notes.least(), found, program)

    def test_names_and_leaves(self):
        self.needs("x", 0, 0)
        self.needs(ONE, 0, 0)
        self.needs(NONE, 0, 1)
        self.needs(noted(NONE, INT), 0, 0)
        self.needs(noted("x", INT), 0, 0)

    def test_functions(self):
        self.needs(FUN, 0, 1)
        self.needs(fun("x", "x", INT), 0, 0)
        self.needs(noted(FUN, INT), 0, 0)
        self.needs(fun("x", NONE), 0, 1)
        self.needs(fun("x", NONE, INT), 0, 1)
        self.needs(fun("x", fun("y", "y")), 0, 1)

    def test_inside_each_other(self):
        self.needs(call(FUN, FUN), 1, 1)
        self.needs(call(call(FUN, "x"), "x"), 0, 1)
        self.needs(more(NONE, NONE), 0, 1)
        self.needs(more(FUN, NONE), 0, 1)
        self.needs(same(NONE, NONE, NONE), 0, 1)
        self.needs(same(NONE, call(FUN, "x"), call(NONE, FUN)), 1, 2)
        self.needs(let("a", NONE, "a"), 1, 1)
        self.needs(let("a", FUN, FUN), 1, 2)

    def test_told_parts_are_cheaper(self):
        row = book(let=["found: 0 told, 1 found; noted 1"])
        self.needs(let("a", NONE, "a"), 1, 1, row)
        self.needs(let("a", NONE, "a", INT), 0, 0, row)
        self.needs(let("a", NONE, NONE), 2, 2, row)
        row = book(let=["told: 0 told, 1 told; noted 1"])
        self.needs(let("a", NONE, NONE), 1, 2, row)
        self.needs(let("a", NONE, NONE, INT), 0, 1, row)
        self.needs(noted(let("a", NONE, NONE, INT), INT), 0, 0, row)

    def test_ways_without_which_nothing_passes(self):
        row = book(one=["told: -"], call=["told: 0 found, 1 found"], fun=["told: 0 found; noted 0"])
        self.needs(ONE, 0, 1, row)
        self.needs(call(ONE, ONE), 2, 3, row)
        self.needs(fun("a", ONE), 2, 3, row)
        self.needs(fun("a", "a"), 1, 2, row)
        self.needs(call(call(ONE, "x"), ONE), 3, 4, row)
        self.assertEqual(list(Notes(row, fun("a", ONE)).lots()), [(0, 1, 2)])
        self.assertEqual(list(Notes(row, fun("a", ONE)).lots(told=True)), [(1, 2)])

    def test_guesses_and_kinds_do_not_matter(self):
        self.needs(NONE, 0, 0, book(none=["found: -"]))
        self.needs(call("x", "x"), 0, 0)
        self.needs(noted(ONE, ("fn", INT, INT)), 0, 0)
        self.needs(fun("x", "x", ("list", NUM)), 0, 0)
        self.needs(call("unknown", "free"), 0, 0)


class Prices(unittest.TestCase):
    def test_prices_say_which_notes_are_cheapest(self):
        self.assertEqual(spots(FUN), [((), None), ((), 0), ((0,), None)])
        for prices, least, lots in (([1, 1, 1], 1, [(0,), (1,)]), ([2, 1, 1], 1, [(1,)]), ([1, 2, 1], 1, [(0,)]),
                                    ([99, 98, 1], 98, [(1,)]), ([7, 7, 1], 7, [(0,), (1,)])):
            notes = Notes(book(), FUN, prices)
            self.assertEqual(notes.least(), least)
            self.assertEqual(list(notes.lots()), lots)
            self.assertEqual(notes.least(told=True), 0)
            self.assertEqual(list(notes.lots(told=True)), [()])

    def test_two_cheap_notes_and_a_dear_one(self):
        row = book(fun=["found: 0 found; noted 0", "told: 0 told"])
        program = fun("a", fun("b", NONE))
        self.assertEqual(spots(program), [((), None), ((), 0), ((0,), None), ((0,), 0), ((0, 0), None)])
        self.assertEqual(Notes(row, program).least(), 1)
        self.assertEqual(list(Notes(row, program, [3, 1, 3, 1, 1]).lots()), [(0,), (1, 3, 4)])
        self.assertEqual(list(Notes(row, program, [3, 1, 2, 1, 1]).lots()), [(0,), (1, 2), (1, 3, 4)])
        self.assertEqual(list(Notes(row, program, [4, 1, 2, 1, 1]).lots()), [(1, 2), (1, 3, 4)])
        self.assertEqual(Notes(row, program, [4, 1, 2, 1, 1]).least(), 3)
        self.assertEqual(list(Notes(row, program, [99, 1, 1, 1, 1]).lots()), [(1, 2)])

    def test_notes_that_stand_cost_nothing(self):
        program = fun("a", noted(fun("b", "b"), INT), INT)
        notes = Notes(book(), program, [99, 99, 99, 99, 99])
        self.assertEqual(notes.least(), 0)
        self.assertEqual(list(notes.lots()), [()])

    def test_wrong_prices(self):
        for prices in ([], [1], [1, 1], [1, 1, 1, 1], [0, 1, 1], [1, 1, 0], [1, 100, 1], [1, -1, 1], [1, 1, 1000],
                       [1, True, 1], [1, 1, False], [1, "1", 1], [1, None, 1], [1, 1, 1.0], [1, 1, (1,)],
                       ["1", "1", "1"], [[1], [1], [1]]):
            with self.assertRaises(BadPrices, msg=repr(prices)):
                Notes(book(), FUN, prices)
        for prices in (5, {1: 1, 2: 2, 3: 3}, "abc"):
            with self.assertRaises(BadPrices, msg=repr(prices)):
                Notes(book(), FUN, prices)
        with self.assertRaises(BadPrices):
            Notes(book(), "x", [])
        with self.assertRaises(BadPrices):
            Notes(book(), noted("x", INT), [1, 1])

    def test_the_bounds_of_prices(self):
        for price in (1, 99):
            self.assertEqual(Notes(book(), NONE, [price]).least(), price)
        self.assertEqual(Notes(book(), noted("x", INT), [5]).least(), 0)

    def test_prices_are_copied(self):
        prices = [3, 5, 1]
        notes = Notes(book(), FUN, prices)
        prices[0] = 50
        prices.append(4)
        self.assertEqual(notes.least(), 3)
        self.assertEqual(list(notes.lots()), [(0,)])
        self.assertEqual(prices, [50, 5, 1, 4])

    def test_notes_follow_the_book_as_it_is(self):
        row = book()
        notes = Notes(row, NONE)
        self.assertEqual(notes.least(), 1)
        row["none"] = [parse_way("found: -")]
        self.assertEqual(notes.least(), 0)
        self.assertEqual(list(notes.lots()), [()])
        self.assertIsNone(notes.still(()))


class Lots(unittest.TestCase):
    def test_ascending(self):
        program = same(FUN, call(FUN, "x"), NONE)
        lots = list(Notes(book(), program).lots())
        self.assertEqual(lots, sorted(lots))
        self.assertEqual(len(lots), len(set(lots)))
        row = {sign: book()[sign] for sign in book()}
        self.assertEqual(lots, plain.least_lots(row, program, False, [1] * len(spots(program)))[1])

    def test_a_lot_that_several_ways_need_comes_once(self):
        row = book(fun=["found: 0 found; noted 0", "found: 0 told; noted 0", "told: 0 told; noted 0"])
        self.assertEqual(list(Notes(row, FUN).lots()), [(1,)])
        self.assertEqual(list(Notes(row, FUN).lots(told=True)), [(1,)])

    def test_asking_twice(self):
        notes = Notes(book(), more(FUN, NONE))
        self.assertEqual(list(notes.lots()), list(notes.lots()))
        one, other = notes.lots(), notes.lots()
        self.assertEqual([next(one), next(other)], [next(notes.lots())] * 2)
        self.assertEqual(notes.least(), 1)

    def test_very_many_lots(self):
        program = "x"
        for _ in range(40):
            program = more(call(FUN, "x"), program)
        notes = Notes(book(more=["found: 0 found, 1 found"]), program)
        self.assertEqual(notes.least(), 40)
        first = list(islice(notes.lots(), 300))
        self.assertEqual(first, sorted(first))
        self.assertEqual(len(set(first)), 300)
        for lot in first:
            self.assertEqual(len(lot), 40)
            self.assertIsNone(notes.still(lot))

    def test_by_chance(self):
        chance = random.Random(31)
        for _ in range(45):
            table = some_table(chance, True)
            row = some_book(chance, table)
            ways = {sign: row[sign] for sign in row}
            for _ in range(10):
                program = some_program(chance, table, chance.choice((1, 2)), chance.choice((0, 0.2)), [("i",)])
                for told in (False, True):
                    self.assertEqual(row.need(program, told=told), plain.needs(ways, program)[0 if told else 1])
                    if len(spots(program)) <= 8:
                        self.compare(chance, row, ways, program, told)

    def compare(self, chance, row, ways, program, told):
        count = len(spots(program))
        for prices in (None, [chance.choice((1, 1, 2, 3, 99)) for _ in range(count)]):
            notes = Notes(row, program, prices)
            least, lots = plain.least_lots(ways, program, told, prices or [1] * count)
            self.assertEqual(notes.least(told=told), least, program)
            self.assertEqual(list(notes.lots(told=told)), lots, program)


class Still(unittest.TestCase):
    def test_still(self):
        notes = Notes(book(), call(FUN, FUN))
        self.assertEqual(spots(call(FUN, FUN)), [
            ((), None), ((0,), None), ((0,), 0), ((0, 0), None), ((1,), None), ((1,), 0), ((1, 0), None)])
        self.assertEqual(notes.still(()), ((0,), 0))
        self.assertEqual(notes.still((0,)), ((0,), 0))
        self.assertEqual(notes.still((3, 4, 5, 6)), ((0,), 0))
        self.assertIsNone(notes.still((1,)))
        self.assertIsNone(notes.still((2,)))
        self.assertIsNone(notes.still((0, 1, 2, 3, 4, 5, 6)))
        self.assertEqual(notes.still((), told=True), ((0,), 0))
        self.assertIsNone(notes.still((5,), told=True))
        self.assertIsNone(notes.still((4,), told=True))
        self.assertEqual(notes.still((3,), told=True), ((0,), 0))

    def test_notes_that_stand_hold_too(self):
        program = call(fun("x", NONE, INT), "x")
        notes = Notes(book(), program)
        self.assertEqual(notes.still(()), ((0, 0), None))
        self.assertIsNone(notes.still((3,)))
        self.assertIsNone(notes.still((1,)))
        self.assertIsNone(notes.still((1, 2, 3)))
        self.assertEqual(notes.still((2,)), ((0, 0), None))

    def test_by_chance(self):
        chance = random.Random(37)
        for _ in range(40):
            table = some_table(chance, True)
            row = some_book(chance, table)
            ways = {sign: row[sign] for sign in row}
            for _ in range(10):
                program = some_program(chance, table, 3, chance.choice((0, 0.2)), [("i",)])
                notes = Notes(row, program)
                rows = spots(program)
                for told in (False, True):
                    lot = tuple(sorted(chance.sample(range(len(rows)), chance.randint(0, len(rows)))))
                    spot = plain.still_at(ways, program, told, [rows[at] for at in lot])
                    self.assertEqual(notes.still(lot, told=told), spot, (program, lot))


if __name__ == "__main__":
    unittest.main()
