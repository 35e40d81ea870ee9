"""Point 3: stocks, and what fits them."""

import unittest

from kindnotes.errors import BadKind
from kindnotes.kinds import Kind, Stock

SHAPES = {"i": "", "n": "", "b": "", "list": "+", "sink": "-", "fn": "-+", "tri": "+-+"}
WORDS = ("a", "b", "c", "d", "e", "f", "g", "h", "i", "j", "k", "l", "m")


class Making(unittest.TestCase):
    def assert_bad(self, *told):
        with self.assertRaises(BadKind, msg=repr(told)):
            Stock(*told)

    def test_too_few_bases(self):
        self.assert_bad({})
        self.assert_bad({"i": ""})
        self.assert_bad({"i": "", "list": "+"})
        self.assert_bad({"i": "", "list": "+", "fn": "-+", "tri": "+++"})
        self.assert_bad({"list": "+", "fn": "-+"})

    def test_two_bases(self):
        self.assertTrue(Stock({"i": "", "n": ""}).fits(("n",)))
        self.assertTrue(Stock({"i": "", "list": "+", "n": ""}).fits(("list", ("n",))))

    def test_twelve_and_thirteen_words(self):
        self.assertTrue(Stock({word: "" for word in WORDS[:12]}).fits(("l",)))
        self.assert_bad({word: "" for word in WORDS})
        mixed = {word: "" if word < "c" else "+" for word in WORDS}
        self.assert_bad(mixed)
        del mixed["m"]
        self.assertTrue(Stock(mixed).fits(("l", ("a",))))

    def test_bad_words(self):
        for word in ("", "A", "aB", "a1", "abcdefghijklm", "a b", "a\n", "_a", "\u00e4"):
            self.assert_bad({"i": "", "n": "", word: ""})
            self.assert_bad({"i": "", "n": "", word: "+"})
            self.assert_bad({word: "", "i": "", "n": ""})
        self.assertTrue(Stock({"abcdefghijkl": "", "z": ""}).fits(("abcdefghijkl",)))

    def test_marks(self):
        for marks in ("", "+", "-", "+-", "--", "+++", "-+-"):
            parts = [("i",)] * len(marks)
            self.assertTrue(Stock({"i": "", "n": "", "w": marks}).fits(("w", *parts)))

    def test_bad_marks(self):
        for marks in ("++++", "----", "*", "+*", " ", "+ ", "+-\n", "a", "0", "+,-", "\u2212"):
            self.assert_bad({"i": "", "n": "", "w": marks})
            self.assert_bad({"w": marks, "i": "", "n": ""})

    def test_an_order_of_what_is_no_base(self):
        shapes = {"i": "", "n": "", "list": "+"}
        self.assert_bad(shapes, {"list": "n"})
        self.assert_bad(shapes, {"i": "list"})
        self.assert_bad(shapes, {"i": "n", "n": "list"})
        self.assert_bad(shapes, {"list": "list"})

    def test_an_order_of_unknown_words(self):
        shapes = {"i": "", "n": "", "list": "+"}
        self.assert_bad(shapes, {"x": "n"})
        self.assert_bad(shapes, {"i": "x"})
        self.assert_bad(shapes, {"i": "n", "n": "x"})
        self.assert_bad(shapes, {"x": "y"})

    def test_an_order_that_leads_back(self):
        shapes = {"a": "", "b": "", "c": "", "d": ""}
        self.assert_bad(shapes, {"a": "a"})
        self.assert_bad(shapes, {"a": "b", "b": "a"})
        self.assert_bad(shapes, {"a": "b", "b": "b"})
        self.assert_bad(shapes, {"a": "b", "b": "c", "c": "a"})
        self.assert_bad(shapes, {"a": "b", "b": "c", "c": "d", "d": "b"})
        self.assert_bad(shapes, {"d": "c", "a": "b", "b": "a"})

    def test_orders_that_are_right(self):
        shapes = {"a": "", "b": "", "c": "", "d": ""}
        for under in ({"a": "b"}, {"a": "b", "b": "c", "c": "d"}, {"a": "d", "b": "d", "c": "d"}, {"d": "a"}):
            self.assertFalse(Stock(shapes, under).flat)

    def test_all_three_parts_may_be_told_by_name(self):
        stock = Stock(shapes={"i": "", "n": ""}, under={"i": "n"})
        self.assertTrue(Kind(stock, ("i",)) <= Kind(stock, ("n",)))


class Flat(unittest.TestCase):
    def test_flat(self):
        self.assertIs(Stock(SHAPES).flat, True)
        self.assertIs(Stock(SHAPES, None).flat, True)
        self.assertIs(Stock(SHAPES, {}).flat, True)
        self.assertIs(Stock(SHAPES, {"i": "n"}).flat, False)

    def test_stocks_do_not_share_their_order(self):
        Stock(SHAPES, {"i": "n"})
        self.assertIs(Stock(SHAPES).flat, True)


class Fits(unittest.TestCase):
    def setUp(self):
        self.stock = Stock(SHAPES, {"i": "n"})

    def test_what_fits(self):
        for row in ("A", "Z", ("i",), ("list", "A"), ("list", ("list", ("b",))), ("fn", "A", "A"),
                    ("tri", ("sink", "A"), ("fn", ("i",), "B"), ("n",))):
            self.assertIs(self.stock.fits(row), True, row)

    def test_a_part_more_or_less(self):
        for row in (("i", "A"), ("list",), ("list", "A", "B"), ("fn", "A"), ("fn", "A", "B", "C"), ("fn",),
                    ("tri", "A", "B"), ("list", ("i", ("n",))), ("fn", "A", ("list",)), ("fn", ("sink",), "A"),
                    ("tri", "A", "B", ("fn", "A"))):
            self.assertIs(self.stock.fits(row), False, row)

    def test_unknown_words(self):
        for row in (("x",), ("lists", "A"), ("list", ("x",)), ("fn", "A", ("x",)), ("fn", ("x",), "A"),
                    ("x", "A"), ("list", ("list", ("list", ("x",))))):
            self.assertIs(self.stock.fits(row), False, row)

    def test_what_is_no_form_does_not_fit(self):
        for row in ("", "a", "AB", "list", (), ("list", "a"), ("list", ("list", "AB")), ("fn", "A", ())):
            self.assertIs(self.stock.fits(row), False, row)
            with self.assertRaises(BadKind, msg=repr(row)):
                Kind(self.stock, row)

    def test_after_the_dicts_that_were_passed_are_changed(self):
        shapes = {"i": "", "n": "", "b": "", "list": "+"}
        under = {"i": "n"}
        stock = Stock(shapes, under)
        shapes["list"] = "++"
        shapes["x"] = ""
        del shapes["n"]
        under["n"] = "b"
        del under["i"]
        self.assertTrue(stock.fits(("list", ("n",))))
        self.assertFalse(stock.fits(("list", ("n",), ("n",))))
        self.assertFalse(stock.fits(("x",)))
        self.assertFalse(stock.flat)
        self.assertTrue(Kind(stock, ("i",)) <= Kind(stock, ("n",)))
        self.assertFalse(Kind(stock, ("n",)) <= Kind(stock, ("b",)))

    def test_a_flat_stock_stays_flat(self):
        under = {}
        stock = Stock(SHAPES, under)
        under["i"] = "n"
        self.assertTrue(stock.flat)
        self.assertFalse(Kind(stock, ("i",)) <= Kind(stock, ("n",)))

    def test_the_dicts_are_unchanged(self):
        shapes, under = dict(SHAPES), {"i": "n"}
        stock = Stock(shapes, under)
        stock.fits(("fn", ("i",), ("n",)))
        self.assertEqual(shapes, SHAPES)
        self.assertEqual(under, {"i": "n"})
        with self.assertRaises(BadKind):
            Stock(shapes, {"i": "n", "n": "i"})
        self.assertEqual(shapes, SHAPES)


if __name__ == "__main__":
    unittest.main()
