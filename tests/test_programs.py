"""Points 6 and 7: how programs are built, their spots and the walk."""

import random
import unittest

import plain
from chance import some_program, some_table
from kindnotes.books import cheapest_book, full_book
from kindnotes.checking import Checker
from kindnotes.errors import BadKind, BadProgram, NotesError, UnknownName, UnknownSign
from kindnotes.kinds import Stock
from kindnotes.notes import Notes, spots
from kindnotes.rules import Table, rule
from sample import INT, NONE, NUM, ONE, book, call, fun, let, more, noted, same, scope

X = (None, None, "x")
SPOTS_OF_A_FUNCTION = [((), None), ((), 0), ((0,), None)]


def takers():
    """Everything that takes a program with a table, by its name."""
    row = book()
    few = Table(row.table.stock)
    for sign in ("fun", "one", "none", "call"):
        few[sign] = row.table[sign]
    names = scope(x=INT, y=INT, f=("fn", INT, INT))
    return {
        "checker": lambda program: Checker(row)(program, names),
        "told checker": lambda program: Checker(row)(program, names, NUM),
        "need": lambda program: row.need(program),
        "told need": lambda program: row.need(program, told=True),
        "in": lambda program: program in row,
        "notes": lambda program: Notes(row, program),
        "priced notes": lambda program: Notes(row, program, [1]),
        "cheapest": lambda program: cheapest_book(few, ["x", program]),
    }


class Built(unittest.TestCase):
    def check(self, error, *programs):
        for name, taker in takers().items():
            for program in programs:
                with self.assertRaises(error, msg=f"{name} {program}") as caught:
                    taker(program)
                if error is UnknownSign:
                    self.assertEqual(caught.exception.sign, "odd")

    def test_right_programs_pass_everywhere(self):
        for program in ("x", ONE, noted("x", NUM), fun("x", "x", INT), noted(fun("z", ONE), ("fn", INT, INT)),
                        call("f", "x"), call("f", noted("x", INT)), noted(NONE, ("list", INT))):
            for name, taker in takers().items():
                try:
                    taker(program)
                except NotesError as error:
                    self.assertNotIsInstance(error, (BadProgram, BadKind, UnknownSign), (name, program))

    def test_unknown_signs(self):
        self.check(UnknownSign, ("odd",), ("odd", X), fun("x", ("odd",)), call("f", noted(("odd",), INT)),
                   noted(("odd", X, X), INT), call(("odd",), "x"))

    def test_names(self):
        self.check(BadProgram, "", "X", "a1", "abcdefghijklm", "a b", ":", fun("x", "Y"), noted("Z", INT),
                   call("f", ""))

    def test_numbers_of_blocks(self):
        self.check(BadProgram, ("one", X), ("call", X), ("call",), ("call", X, X, X), ("fun",),
                   fun("x", ("call", X)), call(("one", X), "x"), ("fun", ("x", None, "x"), X))

    def test_blocks(self):
        self.check(BadProgram, ("fun", "x"), ("fun", ("x", None)), ("fun", ("x", None, "x", None)), ("fun", ()),
                   ("fun", ["x", None, "x"]), ("call", X, "xyz"), ("call", X, ("x", "y")), ("fun", None))

    def test_bound_names(self):
        self.check(BadProgram, fun(None, "x"), ("fun", (None, INT, "x")), fun("X", "x"), fun("", "x"),
                   fun("abcdefghijklm", "x"), fun(("x",), "x"), call(fun(None, "x"), "x"))

    def test_names_and_notes_where_none_are_bound(self):
        self.check(BadProgram, ("call", ("y", None, "f"), X), ("call", X, ("y", None, "x")),
                   ("call", (None, INT, "f"), X), ("call", X, (None, INT, "x")), ("call", ("y", INT, "f"), X),
                   fun("x", ("call", X, (None, INT, "x"))))

    def test_noted_parts(self):
        self.check(BadProgram, noted(noted("x", INT), INT), noted(noted(ONE, INT), NUM), (":",), (":", "x"),
                   (":", "x", INT, INT), fun("x", noted(noted("x", INT), INT)), call((":", "f"), "x"))

    def test_what_is_no_part(self):
        self.check(BadProgram, (), ((),), (X,), ["one"], None, 5, (5,), fun("x", ()), fun("x", None), noted((), INT),
                   call("f", ["one"]), (None,))

    def test_notes_that_do_not_fit(self):
        bad = (("odd",), ("list",), ("int", INT), ("fn", INT), "A", ("list", "A"), ("fn", INT, ("odd",)), "int", ())
        for kind in bad:
            self.check(BadKind, noted("x", kind), noted(ONE, kind), fun("x", "x", kind), fun("x", noted("x", kind)),
                       call(noted("f", kind), "x"), call(fun("z", ONE, kind), "x"))

    def test_a_note_that_is_not_there(self):
        self.check(NotesError, noted("x", None), fun("x", noted(ONE, None)))

    def test_errors_leave_nothing_behind(self):
        row = book()
        checker = Checker(row)
        names = scope(x=INT)
        for program in (("odd",), fun(None, "x"), noted("x", ("odd",))):
            with self.assertRaises(NotesError):
                checker(program, names)
        self.assertEqual(len(checker("x", names)), 1)
        self.assertNotIn("y", names)


class Spots(unittest.TestCase):
    def test_names_and_nodes(self):
        self.assertEqual(spots("x"), [((), None)])
        self.assertEqual(spots(ONE), [((), None)])
        self.assertEqual(spots(fun("x", "x")), SPOTS_OF_A_FUNCTION)
        self.assertEqual(spots(call("f", "x")), [((), None), ((0,), None), ((1,), None)])

    def test_a_note_is_no_step(self):
        self.assertEqual(spots(noted("x", INT)), [((), None)])
        self.assertEqual(spots(noted(fun("x", noted("x", INT), INT), INT)), SPOTS_OF_A_FUNCTION)

    def test_the_bound_name_comes_before_its_part(self):
        self.assertEqual(spots(let("y", "x", fun("z", "z"))), [
            ((), None), ((0,), None), ((), 1), ((1,), None), ((1,), 0), ((1, 0), None)])

    def test_three_places(self):
        self.assertEqual(spots(same("x", fun("y", "y"), ONE)), [
            ((), None), ((0,), None), ((1,), None), ((1,), 0), ((1, 0), None), ((2,), None)])
        three = ("t", ("a", None, "x"), ("b", INT, noted(ONE, INT)), ("c", None, fun("d", "x")))
        self.assertEqual(spots(three), [
            ((), None), ((), 0), ((0,), None), ((), 1), ((1,), None), ((), 2), ((2,), None), ((2,), 0),
            ((2, 0), None)])

    def test_inside_each_other(self):
        program = more(noted(call("f", fun("x", "x", NUM)), INT), more(ONE, NONE))
        self.assertEqual(spots(program), [
            ((), None), ((0,), None), ((0, 0), None), ((0, 1), None), ((0, 1), 0), ((0, 1, 0), None), ((1,), None),
            ((1, 0), None), ((1, 1), None)])

    def test_what_is_no_program_for_any_table(self):
        for program in ("", "X", (), None, fun("X", "x"), ("fun", "x"), ("fun", ("x", None)), (":", "x"),
                        noted(noted("x", INT), INT), call(noted(noted("x", INT), INT), "x"), (None, X),
                        ("call", (None, INT, "x"), X)):
            with self.assertRaises(BadProgram, msg=repr(program)):
                spots(program)
        for program in (noted("x", "A"), noted("x", ("Int",)), fun("x", "x", ("list", "A"))):
            with self.assertRaises(BadKind, msg=repr(program)):
                spots(program)
        with self.assertRaises(UnknownSign) as caught:
            spots(("Odd", X))
        self.assertEqual(caught.exception.sign, "Odd")

    def test_programs_by_chance(self):
        chance = random.Random(3)
        for _ in range(60):
            table = some_table(chance, False)
            row = full_book(table)
            for _ in range(6):
                program = some_program(chance, table, 4, 0.3, [("i",), ("n",)])
                self.assertEqual(spots(program), plain.spots_of(program))
                self.assertEqual(Notes(row, program).least(), plain.needs({sign: row[sign] for sign in row},
                                                                          program)[1])


class FreeNames(unittest.TestCase):
    def unknown(self, program, *known):
        with self.assertRaises(UnknownName) as caught:
            Checker(book())(program, scope(**{name: INT for name in known}))
        return caught.exception.name

    def test_the_first_in_the_walk(self):
        self.assertEqual(self.unknown("x"), "x")
        self.assertEqual(self.unknown(call("y", "x")), "y")
        self.assertEqual(self.unknown(call("y", "x"), "y"), "x")
        self.assertEqual(self.unknown(noted(call(noted("z", INT), "x"), INT)), "z")
        self.assertEqual(self.unknown(more(call("a", "b"), "c"), "a"), "b")
        self.assertEqual(self.unknown(more(call("a", "b"), "c"), "a", "b"), "c")

    def test_bound_names_are_not_free(self):
        self.assertEqual(self.unknown(fun("x", call("x", "y"), INT)), "y")
        self.assertEqual(self.unknown(fun("y", fun("x", call("x", call("y", "z"))))), "z")

    def test_a_bound_name_holds_in_its_own_block_only(self):
        self.assertEqual(self.unknown(call(fun("x", "x", INT), "x")), "x")
        self.assertEqual(self.unknown(let("x", "x", "x")), "x")
        self.assertEqual(self.unknown(let("x", ONE, call("x", "y"))), "y")
        self.assertEqual(self.unknown(more(fun("x", "x", INT), "x")), "x")

    def test_three_blocks(self):
        table = Table(Stock({"i": "", "n": ""}))
        table["t"] = rule(("A", "A"), ("A", "A"), ("A", "A"), whole="A")
        checker = Checker(full_book(table))
        names = scope()
        for at, name in enumerate("abc"):
            blocks = [(other, None, other) for other in "abc"]
            blocks[at] = ("z", None, name)
            with self.assertRaises(UnknownName) as caught:
                checker(("t", *blocks), names)
            self.assertEqual(caught.exception.name, name)


if __name__ == "__main__":
    unittest.main()
