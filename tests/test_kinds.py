"""Point 4: the order of kinds, and kinds by size."""

import unittest
from itertools import product

from kindnotes.errors import BadKind
from kindnotes.kinds import Kind, Stock, kinds_of_size

ORDER = {"i": "n", "e": "n", "n": "top", "u": "v"}
SHAPES = {
    "i": "", "e": "", "n": "", "top": "", "u": "", "v": "", "list": "+", "sink": "-", "fn": "-+", "tri": "+--",
}


def split(total, count):
    """All ways to write a number as a sum of so many numbers from 1 on."""
    if count == 0:
        return [()] if total == 0 else []
    return [(first, *rest) for first in range(1, total + 1) for rest in split(total - first, count - 1)]


def all_kinds(shapes, size):
    """The kinds of a size, made in another way than the program's."""
    rows = []
    for word, marks in shapes.items():
        for sizes in split(size - 1, len(marks)):
            rows.extend((word, *parts) for parts in product(*[all_kinds(shapes, part) for part in sizes]))
    return rows


def lies_under(shapes, under, low, high):
    if shapes[low[0]] == "":
        while low != high and low[0] in under:
            low = (under[low[0]],)
        return low == high
    pairs = zip(shapes[low[0]], low[1:], high[1:])
    return low[0] == high[0] and all(
        lies_under(shapes, under, a, b) if mark == "+" else lies_under(shapes, under, b, a) for mark, a, b in pairs)


def row_of(kind):
    return None if kind is None else kind.row


class Making(unittest.TestCase):
    def setUp(self):
        self.stock = Stock(SHAPES, ORDER)

    def test_the_field_row(self):
        for row in (("i",), ("fn", ("i",), ("list", ("n",)))):
            self.assertEqual(Kind(self.stock, row).row, row)

    def test_bad_kinds(self):
        for row in ("A", ("list", "A"), ("fn", ("i",), "A"), ("fn", ("sink", "B"), ("i",)), ("x",), ("list", ("x",)),
                    ("i", ("i",)), ("list",), ("list", ("i",), ("i",)), ("fn", ("i",)), ("fn", ("i",), ("list",)),
                    ("list", ("i", ("i",)))):
            with self.assertRaises(BadKind, msg=repr(row)):
                Kind(self.stock, row)


class Order(unittest.TestCase):
    def setUp(self):
        self.stock = Stock(SHAPES, ORDER)
        self.flat = Stock(SHAPES)

    def under(self, low, high, stock=None):
        return Kind(stock or self.stock, low) <= Kind(stock or self.stock, high)

    def over_both(self, one, other, stock=None):
        return row_of(Kind(stock or self.stock, one) | Kind(stock or self.stock, other))

    def under_both(self, one, other, stock=None):
        return row_of(Kind(stock or self.stock, one) & Kind(stock or self.stock, other))

    def test_bases(self):
        self.assertIs(self.under(("i",), ("i",)), True)
        self.assertIs(self.under(("i",), ("n",)), True)
        self.assertIs(self.under(("i",), ("top",)), True)
        self.assertIs(self.under(("n",), ("i",)), False)
        self.assertIs(self.under(("i",), ("e",)), False)
        self.assertIs(self.under(("u",), ("top",)), False)

    def test_bases_and_words_with_parts(self):
        self.assertFalse(self.under(("i",), ("list", ("i",))))
        self.assertFalse(self.under(("list", ("i",)), ("i",)))
        self.assertFalse(self.under(("list", ("i",)), ("sink", ("i",))))
        self.assertFalse(self.under(("list", ("i",)), ("list", ("list", ("i",)))))
        self.assertIsNone(self.over_both(("i",), ("list", ("i",))))
        self.assertIsNone(self.under_both(("list", ("i",)), ("sink", ("i",))))

    def test_marks(self):
        self.assertTrue(self.under(("list", ("i",)), ("list", ("n",))))
        self.assertFalse(self.under(("list", ("n",)), ("list", ("i",))))
        self.assertTrue(self.under(("sink", ("n",)), ("sink", ("i",))))
        self.assertFalse(self.under(("sink", ("i",)), ("sink", ("n",))))
        self.assertTrue(self.under(("fn", ("n",), ("i",)), ("fn", ("i",), ("n",))))
        self.assertFalse(self.under(("fn", ("i",), ("i",)), ("fn", ("n",), ("n",))))
        self.assertFalse(self.under(("fn", ("n",), ("n",)), ("fn", ("i",), ("i",))))

    def test_marks_inside_each_other(self):
        self.assertTrue(self.under(("sink", ("sink", ("i",))), ("sink", ("sink", ("n",)))))
        self.assertFalse(self.under(("sink", ("sink", ("n",))), ("sink", ("sink", ("i",)))))
        self.assertTrue(self.under(("sink", ("list", ("n",))), ("sink", ("list", ("i",)))))
        self.assertTrue(self.under(("list", ("sink", ("n",))), ("list", ("sink", ("i",)))))
        low = ("fn", ("fn", ("i",), ("n",)), ("sink", ("n",)))
        high = ("fn", ("fn", ("n",), ("i",)), ("sink", ("i",)))
        self.assertTrue(self.under(low, high))
        self.assertFalse(self.under(high, low))

    def test_least_over_both(self):
        self.assertEqual(self.over_both(("i",), ("i",)), ("i",))
        self.assertEqual(self.over_both(("i",), ("e",)), ("n",))
        self.assertEqual(self.over_both(("i",), ("n",)), ("n",))
        self.assertEqual(self.over_both(("top",), ("e",)), ("top",))
        self.assertEqual(self.over_both(("list", ("i",)), ("list", ("e",))), ("list", ("n",)))
        self.assertEqual(self.over_both(("sink", ("i",)), ("sink", ("n",))), ("sink", ("i",)))
        self.assertEqual(
            self.over_both(("fn", ("i",), ("i",)), ("fn", ("n",), ("e",))), ("fn", ("i",), ("n",)))
        self.assertEqual(
            self.over_both(("sink", ("sink", ("i",))), ("sink", ("sink", ("e",)))), ("sink", ("sink", ("n",))))

    def test_greatest_under_both(self):
        self.assertEqual(self.under_both(("i",), ("i",)), ("i",))
        self.assertEqual(self.under_both(("i",), ("top",)), ("i",))
        self.assertEqual(self.under_both(("n",), ("e",)), ("e",))
        self.assertEqual(self.under_both(("sink", ("i",)), ("sink", ("e",))), ("sink", ("n",)))
        self.assertEqual(
            self.under_both(("fn", ("i",), ("i",)), ("fn", ("e",), ("n",))), ("fn", ("n",), ("i",)))
        self.assertEqual(
            self.under_both(("sink", ("fn", ("u",), ("n",))), ("sink", ("fn", ("v",), ("i",)))),
            ("sink", ("fn", ("u",), ("n",))))

    def test_where_there_is_no_answer(self):
        self.assertIsNone(self.over_both(("i",), ("u",)))
        self.assertIsNone(self.over_both(("top",), ("v",)))
        self.assertIsNone(self.under_both(("i",), ("e",)))
        self.assertIsNone(self.under_both(("top",), ("v",)))
        self.assertIsNone(self.over_both(("sink", ("i",)), ("sink", ("e",))))
        self.assertIsNone(self.under_both(("list", ("i",)), ("list", ("e",))))
        self.assertIsNone(self.over_both(("fn", ("i",), ("i",)), ("fn", ("e",), ("i",))))
        self.assertIsNone(self.over_both(("tri", ("i",), ("i",), ("i",)), ("tri", ("i",), ("i",), ("u",))))

    def test_without_an_order(self):
        self.assertFalse(self.under(("i",), ("n",), self.flat))
        self.assertTrue(self.under(("fn", ("i",), ("n",)), ("fn", ("i",), ("n",)), self.flat))
        self.assertIsNone(self.over_both(("i",), ("n",), self.flat))
        self.assertIsNone(self.under_both(("i",), ("n",), self.flat))
        for row in (("i",), ("fn", ("i",), ("sink", ("n",)))):
            self.assertEqual(self.over_both(row, row, self.flat), row)
            self.assertEqual(self.under_both(row, row, self.flat), row)

    def test_answers_are_kinds_that_compare(self):
        one, other = Kind(self.stock, ("i",)), Kind(self.stock, ("e",))
        both = one | other
        self.assertIsInstance(both, Kind)
        self.assertTrue(one <= both and other <= both)
        self.assertEqual((both & one).row, ("i",))
        self.assertIsInstance(both & one, Kind)

    def test_operands_are_unchanged(self):
        one, other = Kind(self.stock, ("list", ("i",))), Kind(self.stock, ("list", ("e",)))
        self.assertEqual((one | other).row, ("list", ("n",)))
        self.assertEqual((one.row, other.row), (("list", ("i",)), ("list", ("e",))))

    def test_all_pairs_of_small_kinds(self):
        shapes = {"a": "", "b": "", "c": "", "d": "", "e": "", "up": "+", "down": "-", "fn": "-+"}
        for under in ({}, {"a": "c", "b": "c", "c": "d"}):
            stock = Stock(shapes, under)
            for size in (1, 2, 3):
                rows = all_kinds(shapes, size)
                for one in rows[::1 if size < 3 else 3]:
                    over = [row for row in rows if lies_under(shapes, under, one, row)]
                    below = [row for row in rows if lies_under(shapes, under, row, one)]
                    for other in rows:
                        self.assertEqual(self.under(one, other, stock), other in over)
                        high = [row for row in over if lies_under(shapes, under, other, row)]
                        low = [row for row in below if lies_under(shapes, under, row, other)]
                        least = [r for r in high if all(lies_under(shapes, under, r, s) for s in high)]
                        most = [r for r in low if all(lies_under(shapes, under, s, r) for s in low)]
                        self.assertEqual(self.over_both(one, other, stock), least[0] if least else None)
                        self.assertEqual(self.under_both(one, other, stock), most[0] if most else None)

    def test_very_deep_kinds(self):
        low, high = ("i",), ("n",)
        for _ in range(999):
            low, high = ("sink", ("list", high)), ("sink", ("list", low))
        one, other = Kind(self.stock, low), Kind(self.stock, high)
        self.assertTrue(one <= other)
        self.assertFalse(other <= one)
        self.assertTrue((one | other) <= other)
        self.assertTrue(one <= (one & other))


class BySize(unittest.TestCase):
    def test_sizes_up_to_five(self):
        for shapes in (
            {"a": "", "b": ""},
            {"a": "", "b": "", "up": "+"},
            {"a": "", "b": "", "fn": "-+"},
            {"tri": "+++", "a": "", "b": ""},
            {"a": "", "fn": "-+", "tri": "---", "b": ""},
            {"a": "", "b": "", "up": "+", "down": "-", "fn": "-+", "tri": "+--"},
        ):
            stock = Stock(shapes)
            for size in range(6):
                rows = list(kinds_of_size(stock, size))
                self.assertEqual(sorted(rows), sorted(all_kinds(shapes, size)), (shapes, size))
                self.assertEqual(len(rows), len(set(rows)))

    def test_small_sizes_by_hand(self):
        stock = Stock({"a": "", "b": "", "up": "+"}, {"a": "b"})
        self.assertEqual(list(kinds_of_size(stock, 0)), [])
        self.assertEqual(sorted(kinds_of_size(stock, 1)), [("a",), ("b",)])
        self.assertEqual(sorted(kinds_of_size(stock, 2)), [("up", ("a",)), ("up", ("b",))])
        self.assertEqual(sorted(kinds_of_size(Stock({"a": "", "b": ""}), 2)), [])

    def test_it_is_a_generator(self):
        stock = Stock(SHAPES, ORDER)
        kinds = kinds_of_size(stock, 40)
        first, second = next(kinds), next(kinds)
        self.assertNotEqual(first, second)
        self.assertTrue(stock.fits(first) and stock.fits(second))

    def test_large_sizes_with_few_kinds(self):
        self.assertEqual(list(kinds_of_size(Stock({"a": "", "b": "", "fn": "-+"}), 60)), [])
        self.assertEqual(list(kinds_of_size(Stock({"a": "", "b": "", "tri": "-++", "fn": "++"}), 2)), [])
        rows = list(kinds_of_size(Stock({"a": "", "b": "", "up": "+"}), 300))
        depths = []
        for row in rows:
            words = 1
            while len(row) > 1:
                words, row = words + 1, row[1]
            depths.append((words, row))
        self.assertEqual(sorted(depths), [(300, ("a",)), (300, ("b",))])


if __name__ == "__main__":
    unittest.main()
