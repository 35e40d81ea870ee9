"""The largest programs, kinds, books and tables that the points name are answered within seconds."""

import random
import unittest
from itertools import islice

import plain
from chance import all_ways
from kindnotes.books import Book, full_book, least_guess, quiet_signs
from kindnotes.checking import Checker, Scope
from kindnotes.errors import KindClash, MustGuess, StandsStill
from kindnotes.kinds import Stock
from kindnotes.notes import Notes, spots
from kindnotes.rules import Table, parse_way, rule
from kindnotes.weights import compare, least_worse
from sample import INT, NUM, book, call, fun, let, more, noted, scope

EIGHT = ("a", "b", "c", "d", "e", "f", "g", "h")


def some_blocks(chance, table, sign, depth):
    deep = chance.randrange(3)
    for at, (bound, _) in enumerate(table[sign][0]):
        below = depth - 1 if at == deep else min(depth - 1, chance.choice((0, 0, 1, 1, 2)))
        yield (bound and "x", None, large_program(chance, table, below))


def large_program(chance, table, depth):
    if depth == 0:
        return "x"
    sign = chance.choice(list(table))
    return (sign, *some_blocks(chance, table, sign, depth))


def large_table(chance):
    """Eight signs of three places each."""
    made = Table(Stock({"int": "", "num": "", "fn": "-+"}, {"int": "num"}))
    for sign in EIGHT:
        places = [(chance.choice(("A", "B", None)), chance.choice("AB")) for _ in range(3)]
        made[sign] = rule(*places, whole=chance.choice("AB"))
    return made


def large_book(chance, table, most):
    made = Book(table)
    for sign in table:
        made[sign] = [chance.choice(all_ways(table[sign])) for _ in range(most)]
    return made


class Programs(unittest.TestCase):
    def test_forty_nodes_inside_each_other(self):
        program = "x"
        for _ in range(40):
            program = fun("x", noted(program, NUM) if program == "x" else program, INT)
        kind = NUM
        for _ in range(40):
            kind = ("fn", INT, kind)
        self.assertEqual(plain.depth_of(program), 40)
        judgements = Checker(book())(program, scope(x=INT))
        self.assertEqual(len(judgements), 41)
        self.assertEqual([len(judged.path) for judged in judgements], list(range(40, -1, -1)))
        self.assertEqual(judgements[-1].kind, kind)
        self.assertEqual(len(spots(program)), 81)
        self.assertEqual(book().need(program), 0)
        with self.assertRaises(KindClash):
            Checker(book())(program, scope(x=INT), ("fn", INT, INT))

    def test_somewhat_more_nodes_inside_each_other(self):
        program = "x"
        for _ in range(60):
            program = noted(call(fun("x", "x"), program), INT)
        self.assertEqual(book().need(program), 0)
        self.assertEqual(len(spots(program)), 1 + 60 * 4)
        self.assertEqual(Checker(book())(program, scope(x=INT))[-1].path, ())

    def test_four_hundred_nodes_and_names(self):
        program = "x"
        for _ in range(39):
            program = let("y", noted(call("f", noted(call("f", call("f", "x")), INT)), INT), program)
        self.assertLessEqual(plain.size_of(program), 400)
        self.assertGreater(plain.size_of(program), 380)
        names = scope(x=INT, f=("fn", NUM, INT))
        judgements = Checker(book())(program, names)
        self.assertEqual(len(judgements), 1 + 39 * 8)
        self.assertEqual(judgements[-1].kind, INT)
        self.assertEqual(book().need(program), 0)
        self.assertEqual(list(Notes(book(), program).lots()), [()])

    def test_where_it_stands_still_far_inside(self):
        program = fun("x", "x")
        for _ in range(39):
            program = call(program, "y")
        with self.assertRaises(StandsStill) as caught:
            Checker(book())(program, scope(y=INT))
        self.assertEqual(caught.exception.spot, ((0,) * 39, 0))
        self.assertEqual(Notes(book(), program).still(()), ((0,) * 39, 0))
        with self.assertRaises(MustGuess) as caught:
            Checker(book(fun=["found: 0 found"]))(program, scope(y=INT))
        self.assertEqual(caught.exception.path, (0,) * 39)

    def test_many_ways_that_fail_inside_each_other(self):
        texts = ["found: 0 found, 1 told; noted 1", "found: 1 found, 0 found; noted 1", "told: 0 told, 1 found",
                 "told: 0 found, 1 told", "found: 1 found, 0 told", "found: 0 told, 1 found"]
        program = fun("x", "x")
        for _ in range(39):
            program = let("y", program, "y")
        row = book(let=texts, fun=["found: 0 found; noted 0"])
        with self.assertRaises(StandsStill) as caught:
            Checker(row)(program, scope())
        self.assertEqual(caught.exception.spot, ((), 1))
        self.assertEqual(row.need(program), 1)
        self.assertEqual(list(Notes(row, program).lots()), [(2 * 39 - 38,)])

    def test_large_kinds(self):
        made = Table(Stock({"int": "", "num": "", "two": "++", "fn": "-+"}, {"int": "num"}))
        made["twice"] = rule((None, "A"), whole=("two", "A", "A"))
        made["use"] = rule((None, ("two", "A", "A")), whole="A")
        made["fun"] = rule(("A", "B"), whole=("fn", "A", "B"))
        names = Scope(made.stock)
        names["x"] = INT
        program = "x"
        for _ in range(9):
            program = ("twice", (None, None, program))
        for _ in range(9):
            program = ("use", (None, None, program))
        self.assertEqual(Checker(full_book(made))(program, names)[-1].kind, INT)
        program = "x"
        for _ in range(60):
            program = ("fun", ("y", INT, program))
        judgements = Checker(full_book(made))(program, names)
        self.assertEqual(len(judgements), 61)

    def test_deep_kinds(self):
        table = Table(Stock({"int": "", "num": "", "list": "+"}, {"int": "num"}))
        table["wrap"] = rule((None, "A"), whole=self.deep("A", 50))
        names = Scope(table.stock)
        program = "x"
        for _ in range(38):
            program = ("wrap", (None, None, program))
        names["x"] = INT
        judged = Checker(full_book(table))(program, names)[-1]
        count, kind = 0, judged.kind
        while kind != INT:
            count, kind = count + 1, kind[1]
        self.assertEqual(count, 1900)
        self.assertTrue(Checker(full_book(table))(program, names, judged.kind))
        with self.assertRaises(KindClash):
            Checker(full_book(table))(program, names, ("list", judged.kind))

    def deep(self, kind, count):
        for _ in range(count):
            kind = ("list", kind)
        return kind


class Books(unittest.TestCase):
    def test_eight_signs_of_three_places(self):
        chance = random.Random(73)
        for most in (1, 4, 12):
            table = large_table(chance)
            one, other = large_book(chance, table, most), large_book(chance, table, most)
            row = compare(one, other)
            kept = [row.keeps(sign) for sign in table]
            self.assertEqual(all(kept), row.greatest is not None)
            self.assertIs(one <= other, least_worse(one, other) is None)
            self.assertIs(other <= one, least_worse(other, one) is None)
            self.assertLessEqual(len(quiet_signs(one)), 8)
            program = least_guess(one)
            names = Scope(table.stock)
            names["x"] = INT
            with self.assertRaises(MustGuess):
                Checker(one)(program, names)
            self.assertIsNone(least_guess(full_book(table)))

    def test_all_ways_of_eight_signs(self):
        table = large_table(random.Random(79))
        one = Book(table)
        for sign in table:
            one[sign] = all_ways(table[sign])
        other = full_book(table)
        self.assertTrue(one <= other)
        self.assertEqual(quiet_signs(one), list(EIGHT))
        self.assertEqual(compare(one, other).ring, None)

    def test_notes_of_large_programs(self):
        chance = random.Random(83)
        for most in (2, 8):
            table = large_table(chance)
            row = large_book(chance, table, most)
            program = large_program(chance, table, 40)
            while not 300 < plain.size_of(program) <= 400:
                program = large_program(chance, table, 40)
            ways = {sign: row[sign] for sign in row}
            told, found = plain.needs(ways, program)
            self.assertEqual((row.need(program, told=True), row.need(program)), (told, found))
            notes = Notes(row, program)
            self.assertEqual((notes.least(told=True), notes.least()), (told, found))
            lots = list(islice(notes.lots(), 5))
            for lot in lots:
                self.assertEqual(len(lot), found)
                self.assertIsNone(notes.still(lot))
            self.assertEqual(lots, sorted(lots))

    def test_ways_with_a_guess_far_down(self):
        made = Table(Stock({"int": "", "num": ""}))
        made["leaf"] = rule(whole="A")
        made["wrap"] = rule((None, "A"), whole="A")
        row = Book(made)
        row["leaf"] = [parse_way("told: -")]
        row["wrap"] = [parse_way("found: 0 found"), parse_way("told: 0 told")]
        self.assertIsNone(least_guess(row))
        row["wrap"] = [parse_way("found: 0 found"), parse_way("found: 0 told")]
        self.assertEqual(least_guess(row), ("wrap", (None, None, ("leaf",))))


class Together(unittest.TestCase):
    def test_a_list_of_many(self):
        program = "l"
        for at in range(39):
            program = more(noted(call("f", call("f", "x")), INT) if at else "x", program)
        names = scope(x=INT, l=("list", NUM), f=("fn", NUM, INT))
        row = book()
        self.assertEqual(Checker(row)(program, names)[-1].kind, ("list", NUM))
        self.assertEqual(Checker(row)(program, names, ("list", NUM))[-1].kind, ("list", NUM))


if __name__ == "__main__":
    unittest.main()
