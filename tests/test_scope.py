"""Scopes: kinds of names, and with blocks in which a name has a kind."""

import unittest

from kindnotes.checking import Checker, Scope
from kindnotes.errors import BadKind, NotesError, UnknownName
from sample import INT, NUM, TEXT, book, call, fun, noted, scope, stock


class Names(unittest.TestCase):
    def test_asking_and_setting(self):
        row = Scope(stock())
        self.assertNotIn("x", row)
        row["x"] = INT
        self.assertIn("x", row)
        self.assertEqual(row["x"], INT)
        row["x"] = ("fn", INT, ("list", NUM))
        self.assertEqual(row["x"], ("fn", INT, ("list", NUM)))
        self.assertNotIn("y", row)

    def test_unknown_names(self):
        row = scope(x=INT)
        with self.assertRaises(UnknownName) as caught:
            row["y"]
        self.assertEqual(caught.exception.name, "y")

    def test_kinds_that_do_not_fit(self):
        row = scope(x=INT)
        for kind in (("odd",), ("list",), ("int", INT), "A", ("list", "A"), ("fn", INT, ("odd",)), ()):
            with self.assertRaises(BadKind, msg=repr(kind)):
                row["y"] = kind
            with self.assertRaises(BadKind, msg=repr(kind)):
                row["x"] = kind
            with self.assertRaises(BadKind, msg=repr(kind)):
                with row.bound("x", kind):
                    pass
        self.assertNotIn("y", row)
        self.assertEqual(row["x"], INT)

    def test_scopes_share_nothing(self):
        one, other = scope(x=INT), scope(y=NUM)
        self.assertNotIn("y", one)
        self.assertNotIn("x", other)

    def test_a_scope_is_not_iterated(self):
        with self.assertRaises(TypeError):
            list(scope(x=INT))


class Bound(unittest.TestCase):
    def test_a_name_that_had_a_kind(self):
        row = scope(x=INT, y=TEXT)
        with row.bound("x", NUM):
            self.assertEqual(row["x"], NUM)
            self.assertEqual(row["y"], TEXT)
        self.assertEqual(row["x"], INT)
        self.assertEqual(row["y"], TEXT)

    def test_a_name_that_had_none(self):
        row = scope(y=TEXT)
        with row.bound("x", NUM):
            self.assertIn("x", row)
            self.assertEqual(row["x"], NUM)
        self.assertNotIn("x", row)
        with self.assertRaises(UnknownName):
            row["x"]

    def test_inside_each_other(self):
        row = scope()
        with row.bound("x", INT):
            with row.bound("x", NUM), row.bound("y", TEXT):
                self.assertEqual((row["x"], row["y"]), (NUM, TEXT))
            self.assertEqual(row["x"], INT)
            self.assertNotIn("y", row)
        self.assertNotIn("x", row)

    def test_a_block_with_an_error(self):
        row = scope(x=INT)
        for error in (ValueError, KeyError, UnknownName):
            with self.assertRaises(error):
                with row.bound("x", NUM):
                    with row.bound("y", NUM):
                        raise error("y")
            self.assertEqual(row["x"], INT)
            self.assertNotIn("y", row)

    def test_what_is_set_in_a_block_goes_with_it(self):
        row = scope(x=INT)
        with row.bound("y", NUM):
            row["x"] = TEXT
            row["y"] = TEXT
            row["z"] = TEXT
            self.assertEqual((row["x"], row["y"], row["z"]), (TEXT, TEXT, TEXT))
        self.assertEqual(row["x"], INT)
        self.assertNotIn("y", row)
        self.assertNotIn("z", row)

    def test_nothing_holds_before_the_block(self):
        row = scope(x=INT)
        held = row.bound("x", NUM)
        self.assertEqual(row["x"], INT)
        for _ in range(2):
            with held:
                self.assertEqual(row["x"], NUM)
                with held:
                    self.assertEqual(row["x"], NUM)
                self.assertEqual(row["x"], NUM)
            self.assertEqual(row["x"], INT)

    def test_a_name_that_is_set_before_the_block_begins(self):
        row = scope()
        held = row.bound("x", NUM)
        row["y"] = TEXT
        with held:
            self.assertEqual(row["y"], TEXT)
        self.assertEqual(row["y"], TEXT)

    def test_a_check_in_a_block(self):
        checker = Checker(book())
        row = scope(f=("fn", NUM, TEXT))
        with row.bound("x", INT):
            self.assertEqual(checker(call("f", "x"), row)[-1].kind, TEXT)
        with self.assertRaises(UnknownName):
            checker(call("f", "x"), row)


class AfterACheck(unittest.TestCase):
    def test_the_scope_is_as_before(self):
        checker = Checker(book())
        row = scope(x=TEXT, f=("fn", NUM, TEXT))
        for program in (fun("x", "x", INT), fun("y", "y", INT), fun("y", call("f", "y"), TEXT), fun("y", "z", INT),
                        fun("y", "y"), noted("x", INT), ("odd",), fun("y", ("odd",), INT), noted("x", ("odd",))):
            for kind in (None, ("fn", INT, NUM), ("odd",)):
                try:
                    checker(program, row, kind)
                except NotesError:
                    pass
                self.assertEqual((row["x"], row["f"]), (TEXT, ("fn", NUM, TEXT)))
                self.assertNotIn("y", row)
                self.assertNotIn("z", row)


if __name__ == "__main__":
    unittest.main()
