"""Point 5: rules and tables."""

import unittest

from kindnotes.errors import BadRule, UnknownSign
from kindnotes.kinds import Stock
from kindnotes.rules import Table, rule

NO_FORMS = (
    "", "a", "AB", "word", "1", (), ("A",), ("abcdefghijklm",), ("w", "x"), ("w", "A", "B", "C", "D"), ("w", ("V",)),
    ("w", None),
)


class Rule(unittest.TestCase):
    def test_no_place(self):
        self.assertEqual(rule(whole="A"), ((), "A"))
        self.assertEqual(rule(whole=("fn", "A", ("i",))), ((), ("fn", "A", ("i",))))

    def test_one_to_three_places(self):
        first, second, third = (None, "A"), (("list", "A"), ("i",)), ("B", ("fn", "A", "B"))
        self.assertEqual(rule(first, whole="B"), ((first,), "B"))
        self.assertEqual(rule(second, first, whole="B"), ((second, first), "B"))
        self.assertEqual(rule(first, second, third, whole="C"), ((first, second, third), "C"))

    def test_a_fourth_place(self):
        with self.assertRaises(BadRule):
            rule((None, "A"), (None, "A"), (None, "A"), (None, "A"), whole="A")
        with self.assertRaises(BadRule):
            rule(*[("B", "A")] * 5, whole="A")

    def test_bound_forms_and_none(self):
        for bound in (None, "A", ("i",), ("fn", "A", ("list", "B"))):
            self.assertEqual(rule((bound, "A"), whole="A"), (((bound, "A"),), "A"))

    def test_a_whole_that_is_no_form(self):
        for bad in NO_FORMS + (None,):
            with self.assertRaises(BadRule, msg=repr(bad)):
                rule(whole=bad)
            with self.assertRaises(BadRule, msg=repr(bad)):
                rule((None, "A"), whole=bad)

    def test_places_that_hold_no_forms(self):
        for bad in NO_FORMS:
            for place in ((bad, "A"), (None, bad), ("A", bad), (bad, bad)):
                for places in ((place,), ((None, "A"), place), (place, ("A", "B")), ((None, "A"), ("A", "B"), place)):
                    with self.assertRaises(BadRule, msg=repr(place)):
                        rule(*places, whole="A")

    def test_a_place_without_a_form(self):
        for place in ((None, None), ("A", None), (), ("A",), (None,), ("A", "B", "C"), (None, "B", "C"), "A", "AB"):
            with self.assertRaises(BadRule, msg=repr(place)):
                rule(place, whole="A")

    def test_the_whole_is_told_by_name(self):
        with self.assertRaises(TypeError):
            rule((None, "A"))


class Tables(unittest.TestCase):
    def setUp(self):
        self.stock = Stock({"i": "", "n": "", "list": "+", "fn": "-+"}, {"i": "n"})
        self.table = Table(self.stock)
        self.first = rule(("A", "B"), whole=("fn", "A", "B"))
        self.second = rule((None, ("fn", "A", "B")), (None, "A"), whole="B")

    def assert_refused(self, sign, row):
        signs = list(self.table)
        rules = [self.table[known] for known in signs]
        with self.assertRaises(BadRule, msg=repr((sign, row))):
            self.table[sign] = row
        self.assertEqual(list(self.table), signs)
        self.assertEqual([self.table[known] for known in signs], rules)
        if sign not in signs:
            with self.assertRaises(UnknownSign):
                self.table[sign]

    def test_rules_by_their_signs(self):
        self.table["lambda"] = self.first
        self.table["call"] = self.second
        self.assertEqual(self.table["lambda"], self.first)
        self.assertEqual(self.table["call"], self.second)

    def test_unknown_signs(self):
        self.table["call"] = self.second
        for sign in ("lambda", "Call", "cal", "calls", "", ":"):
            with self.assertRaises(UnknownSign) as caught:
                self.table[sign]
            self.assertEqual(caught.exception.sign, sign)

    def test_the_order_of_the_signs(self):
        self.assertEqual(list(self.table), [])
        signs = ["m", "z", "a", "k", "b"]
        for sign in signs:
            self.table[sign] = self.first
        self.assertEqual(list(self.table), signs)
        self.assertEqual(list(self.table), signs)

    def test_signs_that_are_no_words(self):
        for sign in ("", "A", "callS", "call it", "call1", "abcdefghijklm", ":", "call\n", "\u00e4"):
            self.assert_refused(sign, self.first)
        self.table["abcdefghijkl"] = self.first
        self.table["a"] = self.first
        self.assertEqual(list(self.table), ["abcdefghijkl", "a"])

    def test_a_sign_that_is_there_already(self):
        self.table["call"] = self.second
        self.assert_refused("call", self.first)
        self.assert_refused("call", self.second)

    def test_a_sign_may_be_a_word_of_the_stock(self):
        self.table["list"] = self.first
        self.assertEqual(list(self.table), ["list"])

    def test_the_ninth_sign(self):
        for sign in "abcdefgh":
            self.table[sign] = self.first
        self.assertEqual(list(self.table), list("abcdefgh"))
        self.assert_refused("i", self.first)
        self.assert_refused("a", self.first)
        self.assertEqual(self.table["h"], self.first)

    def test_forms_that_do_not_fit(self):
        self.table["call"] = self.second
        for bad in (("x",), ("list",), ("list", "A", "B"), ("fn", "A"), ("i", "A"), ("fn", "A", ("x",)),
                    ("list", ("list", ("n", ("n",))))):
            for row in (
                rule(whole=bad),
                rule((None, bad), whole="A"),
                rule((bad, "A"), whole="A"),
                rule((None, "A"), ("A", "B"), whole=bad),
                rule((None, "A"), (None, "A"), (None, bad), whole="A"),
                rule((None, "A"), ("A", "B"), (bad, "B"), whole="A"),
                rule((None, "A"), ("A", bad), (None, "B"), whole="A"),
                rule((None, "A"), (bad, "A"), (None, "B"), whole="A"),
            ):
                self.assert_refused("new", row)

    def test_a_refused_sign_can_be_taken_later(self):
        self.assert_refused("new", rule(whole=("x",)))
        self.table["new"] = self.first
        self.assertEqual(self.table["new"], self.first)

    def test_tables_are_apart(self):
        other = Table(self.stock)
        other["call"] = self.first
        self.table["call"] = self.second
        self.assertEqual((other["call"], self.table["call"]), (self.first, self.second))


if __name__ == "__main__":
    unittest.main()
