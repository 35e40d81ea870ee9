"""Point 16: bare needs, comparisons of two books, and the least program that is worse in one."""

import random
import unittest
from itertools import product

import plain
from chance import all_ways, some_book, some_table
from kindnotes.books import Book, full_book
from kindnotes.errors import NoWay, UnknownSign
from kindnotes.kinds import Stock
from kindnotes.notes import spots
from kindnotes.rules import Table, parse_way, rule
from kindnotes.weights import Comparison, compare, least_worse, own_need

INT = ("int",)


def table_of(**places):
    """A table whose signs bind a name at the places that say so: b for a bound name, p for none."""
    table = Table(Stock({"int": "", "num": ""}))
    for sign, marks in places.items():
        table[sign] = rule(*[("A" if mark == "b" else None, "A") for mark in marks], whole="A")
    return table


def book_of(table, **texts):
    book = Book(table)
    for sign, rows in texts.items():
        book[sign] = [parse_way(text) for text in rows]
    return book


def ways_of(book):
    return {sign: book[sign] for sign in book}


def put(ring, part):
    """The ring with a part in its hole."""
    if isinstance(ring, str):
        return part if ring == "hole" else ring
    return (ring[0], *[(name, note, put(inner, part)) for name, note, inner in ring[1:]])


def measured(one, other, program):
    """The state of a bare program, and its told and found surplus."""
    told, found = plain.needs(ways_of(one), program)
    its_told, its_found = plain.needs(ways_of(other), program)
    return (found - told, its_found - its_told), told - its_told, found - its_found


class OwnNeed(unittest.TestCase):
    def check(self, texts, differences, pair):
        rows = tuple(parse_way(text) for text in texts)
        self.assertEqual(own_need(rows, differences), pair)
        self.assertEqual(own_need(list(rows), tuple(differences)), pair)

    def test_no_places(self):
        self.check(["found: -"], [], (0, 0))
        self.check(["told: -"], [], (0, 1))
        self.check(["told: -", "found: -"], [], (0, 0))

    def test_one_place(self):
        self.check(["found: 0 found"], [0], (0, 0))
        self.check(["found: 0 found"], [1], (1, 1))
        self.check(["found: 0 told"], [1], (0, 0))
        self.check(["told: 0 told"], [1], (0, 1))
        self.check(["told: 0 found"], [1], (1, 2))
        self.check(["told: 0 found; noted 0"], [1], (2, 3))
        self.check(["found: 0 found; noted 0", "told: 0 told"], [0], (0, 1))
        self.check(["found: 0 found; noted 0", "told: 0 told"], [1], (0, 1))
        self.check(["found: 0 found", "told: 0 told"], [0], (0, 0))
        self.check(["found: 0 found", "told: 0 told"], [1], (0, 1))
        self.check(["found: 0 told; noted 0", "told: 0 found"], [0], (0, 1))
        self.check(["found: 0 told; noted 0", "told: 0 found"], [1], (1, 1))

    def test_two_places(self):
        self.check(["found: 0 found, 1 told"], [0, 1], (0, 0))
        self.check(["found: 0 found, 1 told"], [1, 0], (1, 1))
        self.check(["found: 1 found, 0 told"], [0, 1], (1, 1))
        self.check(["found: 1 found, 0 told"], [1, 0], (0, 0))
        self.check(["found: 1 found, 0 found"], [1, 1], (2, 2))
        self.check(["found: 1 found, 0 told", "found: 0 found, 1 told"], [0, 1], (0, 0))
        self.check(["told: 0 told, 1 told", "found: 0 found, 1 found; noted 1"], [1, 1], (0, 1))

    def test_three_places(self):
        self.check(["found: 2 found, 0 found, 1 found; noted 0, 1, 2"], [1, 1, 1], (6, 6))
        self.check(["told: 2 found, 0 found, 1 found; noted 0, 1, 2"], [1, 1, 1], (6, 7))
        self.check(["found: 2 told, 0 told, 1 told; noted 0, 2"], [1, 1, 1], (2, 2))
        self.check(["found: 2 found, 0 told, 1 told"], [1, 1, 0], (0, 0))
        self.check(["found: 2 found, 0 told, 1 told"], [0, 0, 1], (1, 1))

    def test_against_bare_nodes(self):
        table = table_of(leaf="", t="bpb")
        parts = {0: "x", 1: ("leaf",)}
        chance = random.Random(41)
        for _ in range(40):
            ways = [chance.choice(all_ways(table["t"])) for _ in range(chance.randint(1, 3))]
            book = {"leaf": (parse_way("told: -"),), "t": ways}
            for differences in product((0, 1), repeat=3):
                blocks = zip(("a", None, "a"), differences)
                node = ("t", *[(name, None, parts[difference]) for name, difference in blocks])
                self.assertEqual(own_need(ways, differences), plain.needs(book, node))


class Compare(unittest.TestCase):
    def test_no_signs(self):
        book = Book(table_of())
        row = compare(book, book)
        self.assertIsInstance(row, Comparison)
        self.assertEqual((row.greatest, row.weights, row.ring, row.inner), (0, {(0, 0): 0}, None, None))
        self.assertIsInstance(row.most, str)
        self.assertIsNone(least_worse(book, book))

    def test_a_leaf(self):
        table = table_of(leaf="")
        told, found = book_of(table, leaf=["told: -"]), book_of(table, leaf=["found: -"])
        row = compare(told, found)
        self.assertEqual((row.greatest, row.weights, row.most), (1, {(0, 0): 0, (1, 0): 0}, ("leaf",)))
        self.assertEqual((row.ring, row.inner), (None, None))
        row = compare(found, told)
        self.assertEqual((row.greatest, row.weights), (0, {(0, 0): 0, (0, 1): 0}))
        self.assertEqual(compare(told, told).weights, {(0, 0): 0, (1, 1): 0})
        self.assertEqual(least_worse(told, found), ("leaf",))
        self.assertIsNone(least_worse(found, told))
        self.assertTrue(found <= told)
        self.assertFalse(told <= found)

    def test_a_greatest_surplus_above_others(self):
        table = table_of(leaf="", pair="pp")
        one = book_of(table, leaf=["told: -"], pair=["told: 0 found, 1 found"])
        other = book_of(table, leaf=["told: -"], pair=["told: 0 found, 1 found", "told: 0 told, 1 found"])
        row = compare(one, other)
        self.assertIsNone(row.greatest)
        self.assertEqual(row.weights, {})
        self.assertIsNone(row.most)
        self.check_ring(one, other, row)

    def test_weights_below_0(self):
        table = table_of(leaf="", wrap="b")
        one = book_of(table, leaf=["found: -"], wrap=["told: 0 told"])
        other = book_of(table, leaf=["found: -"], wrap=["found: 0 told; noted 0"])
        row = compare(one, other)
        self.assertEqual(row.weights, {(0, 0): 0, (1, 0): -1})
        self.assertEqual(row.greatest, 0)
        self.assertIsNone(row.ring)
        row = compare(other, one)
        self.assertEqual((row.greatest, row.weights, row.most), (None, {}, None))
        self.check_ring(other, one, row)

    def test_a_surplus_that_takes_four_nodes(self):
        # Only a leaf has both differences, a keeps the first of them, and b gains by it once and loses it.
        table = table_of(leaf="", a="p", b="p", c="p")
        one = book_of(table, leaf=["told: -"], a=["found: 0 found", "told: 0 told"], b=["found: 0 found"],
                      c=["found: 0 told"])
        other = book_of(table, leaf=["told: -"], a=["found: 0 told"], b=["told: 0 found"], c=["found: 0 told"])
        row = compare(one, other)
        self.assertEqual(row.weights, {(0, 0): 1, (0, 1): 1, (1, 0): 0, (1, 1): 0})
        self.assertEqual(row.greatest, 1)
        self.assertIsNone(row.ring)
        self.assertEqual(measured(one, other, row.most)[2], 1)
        self.assertTrue(all(row.keeps(sign) for sign in table))

    def check_ring(self, one, other, row):
        """Whatever stands in the ring: the state stays, the told surplus grows, again and again."""
        self.assertEqual(plain.free_names(row.ring).count("hole"), 1)
        self.assertEqual(repr(row.ring).count("hole"), 1)
        self.check_passable(one, other, row.ring, row.inner)
        inner = row.inner
        state, surplus, _ = measured(one, other, inner)
        for _ in range(4):
            inner = put(row.ring, inner)
            self.assertEqual(measured(one, other, inner)[0], state)
            self.assertGreater(measured(one, other, inner)[1], surplus)
            surplus = measured(one, other, inner)[1]
        return state

    def check_passable(self, one, other, *programs):
        for program in programs:
            self.assertEqual(plain.noted_spots(program), set())
            self.assertLessEqual(plain.size_of(program), 400)
            self.assertLessEqual(plain.depth_of(program), 40)
            for book in (one, other):
                self.assertEqual(book.need(program), plain.needs(ways_of(book), program)[1])
            self.assertTrue(spots(program))

    def test_by_chance(self):
        chance = random.Random(43)
        counts = {True: 0, False: 0}
        for _ in range(90):
            table = some_table(chance, True)
            one, other = some_book(chance, table, 3), some_book(chance, table, 3)
            if chance.random() < 0.4:
                for sign in list(table)[1:]:
                    other[sign] = one[sign]
            row = compare(one, other)
            counts[row.greatest is None] += 1
            rules = {sign: table[sign] for sign in table}
            self.assertEqual(one <= other, row.greatest is not None and row.greatest <= 0)
            if row.greatest is None:
                self.assertEqual((row.weights, row.most), ({}, None))
                state = self.check_ring(one, other, row)
                self.check_all_in_ring(one, other, row.ring, state, rules)
            else:
                self.check_weights(one, other, row, rules)
        self.assertGreater(min(counts.values()), 25)

    def check_all_in_ring(self, one, other, ring, state, rules):
        known = {}
        for size in (1, 2, 3):
            for program in plain.bare_programs(rules, size, known):
                its_state, surplus, _ = measured(one, other, program)
                if its_state == state:
                    self.assertEqual(measured(one, other, put(ring, program))[0], state)
                    self.assertGreater(measured(one, other, put(ring, program))[1], surplus)

    def check_weights(self, one, other, row, rules):
        self.assertEqual((row.ring, row.inner), (None, None))
        self.check_passable(one, other, row.most)
        self.assertEqual(measured(one, other, row.most)[2], row.greatest)
        best = {}
        known = {}
        for size in (1, 2, 3, 4, 5, 6, 7):
            programs = plain.bare_programs(rules, size, known)
            if len(programs) > 600:
                break
            for program in programs:
                state, surplus, found = measured(one, other, program)
                best[state] = max(best.get(state, surplus), surplus)
                self.assertLessEqual(found, row.greatest)
        for state, surplus in best.items():
            self.assertLessEqual(surplus, row.weights[state])
        self.assertEqual(row.greatest, max(weight + state[0] - state[1] for state, weight in row.weights.items()))
        for sign in rules:
            self.assertIs(row.keeps(sign), True)


class Keeps(unittest.TestCase):
    def setUp(self):
        self.table = table_of(leaf="", wrap="b", pair="pp")
        self.one = book_of(self.table, leaf=["told: -"], wrap=["found: 0 told; noted 0"],
                           pair=["found: 0 told, 1 told"])
        self.other = book_of(self.table, leaf=["told: -"], wrap=["found: 0 told; noted 0"],
                             pair=["found: 0 told, 1 told"])
        self.row = compare(self.one, self.other)

    def keeping(self):
        return [sign for sign in self.table if self.row.keeps(sign)]

    def test_as_compared(self):
        self.assertEqual(self.row.weights, {(0, 0): 0, (1, 1): 0})
        self.assertEqual(self.keeping(), ["leaf", "wrap", "pair"])

    def test_dearer_ways_in_the_first_book(self):
        self.one["wrap"] = [parse_way("found: 0 found; noted 0")]
        self.assertEqual(self.keeping(), ["leaf", "pair"])
        self.one["wrap"] = [parse_way("found: 0 told; noted 0"), parse_way("found: 0 found; noted 0")]
        self.assertEqual(self.keeping(), ["leaf", "wrap", "pair"])

    def test_dearer_ways_in_the_second_book(self):
        self.other["pair"] = [parse_way("found: 0 told, 1 found")]
        self.assertEqual(self.keeping(), ["leaf", "wrap", "pair"])
        self.assertEqual(compare(self.one, self.other).greatest, 0)

    def test_a_state_that_was_not_reached(self):
        self.other["leaf"] = [parse_way("found: -")]
        self.assertEqual(self.keeping(), ["wrap", "pair"])
        self.other["leaf"] = [parse_way("told: -")]
        self.one["pair"] = [parse_way("told: 0 told, 1 told")]
        self.assertEqual(self.keeping(), ["leaf", "wrap"])
        self.other["pair"] = [parse_way("told: 0 told, 1 told")]
        self.assertEqual(self.keeping(), ["leaf", "wrap", "pair"])

    def test_the_fields_stay(self):
        self.one["wrap"] = [parse_way("found: 0 found; noted 0")]
        self.assertEqual(self.row.weights, {(0, 0): 0, (1, 1): 0})
        self.assertEqual(self.row.greatest, 0)

    def test_new_signs(self):
        self.table["new"] = rule(("A", "A"), whole="A")
        with self.assertRaises(NoWay) as caught:
            self.row.keeps("new")
        self.assertEqual(caught.exception.sign, "new")
        self.one["new"] = [parse_way("found: 0 told")]
        with self.assertRaises(NoWay):
            self.row.keeps("new")
        self.other["new"] = [parse_way("found: 0 told")]
        self.assertIs(self.row.keeps("new"), True)
        self.one["new"] = [parse_way("found: 0 told; noted 0")]
        self.assertIs(self.row.keeps("new"), False)
        self.other["new"] = [parse_way("found: 0 found; noted 0")]
        self.assertIs(self.row.keeps("new"), True)
        self.other["new"] = [parse_way("told: 0 found; noted 0")]
        self.assertIs(self.row.keeps("new"), False)

    def test_unknown_signs(self):
        with self.assertRaises(UnknownSign):
            self.row.keeps("odd")

    def test_without_weights(self):
        other = book_of(self.table, leaf=["told: -"], wrap=["told: 0 told"], pair=["found: 0 told, 1 told"])
        row = compare(self.one, other)
        self.assertEqual(row.weights, {})
        for sign in self.table:
            self.assertIs(row.keeps(sign), False)

    def test_each_way_by_chance(self):
        chance = random.Random(47)
        outcomes = {True: 0, False: 0}
        for _ in range(80):
            table = some_table(chance, True)
            one, other = some_book(chance, table, 2), some_book(chance, table, 2)
            row = compare(one, other)
            if not row.weights:
                continue
            for sign in table:
                chance.choice((one, other))[sign] = [chance.choice(all_ways(table[sign]))]
                kept = self.keeps_by_the_words(one[sign], other[sign], row.weights, len(table[sign][0]))
                self.assertIs(row.keeps(sign), kept)
                outcomes[kept] += 1
        self.assertGreater(min(outcomes.values()), 20)

    def keeps_by_the_words(self, ways, its_ways, weights, count):
        for parts in product(weights, repeat=count):
            told, found = own_need(ways, [part[0] for part in parts])
            its_told, its_found = own_need(its_ways, [part[1] for part in parts])
            state = (found - told, its_found - its_told)
            if state not in weights or told - its_told + sum(weights[part] for part in parts) > weights[state]:
                return False
        return True


class LeastWorse(unittest.TestCase):
    def test_none(self):
        table = table_of(leaf="", wrap="b")
        book = book_of(table, leaf=["told: -"], wrap=["found: 0 found; noted 0"])
        self.assertIsNone(least_worse(book, book))
        cheaper = book_of(table, leaf=["found: -"], wrap=["found: 0 found; noted 0"])
        self.assertIsNone(least_worse(cheaper, book))
        self.assertEqual(least_worse(book, cheaper), ("leaf",))

    def test_a_long_way_up(self):
        table = table_of(one="ppp", two="bpp")
        one = book_of(table, one=["told: 1 told, 2 found, 0 found", "found: 0 told, 1 found, 2 found",
                                  "found: 0 found, 1 told, 2 told"], two=["told: 1 found, 0 found, 2 found"])
        other = book_of(table, one=["told: 1 found, 0 found, 2 told", "told: 2 told, 1 told, 0 found",
                                    "told: 1 told, 2 found, 0 told"], two=["told: 2 found, 1 found, 0 found"])
        program = least_worse(one, other)
        self.assertGreater(measured(one, other, program)[2], 0)
        self.assertEqual(plain.size_of(program), 22)
        self.assertEqual(self.least_size(one, other, {sign: table[sign] for sign in table}, 24), 22)

    def test_a_narrow_program_before_a_wide_one(self):
        table = table_of(one="p", three="ppp")
        one = book_of(table, one=["told: 0 found"], three=["told: 0 told, 1 told, 2 found"])
        other = book_of(table, one=["told: 0 told"], three=["found: 1 told, 2 found, 0 found"])
        inner = ("one", (None, None, "x"))
        self.assertEqual(least_worse(one, other), ("one", (None, None, inner)))

    def test_names_count_as_leaves_do(self):
        table = table_of(a="bpb", b="b", c="", d="pb")
        one = book_of(table, a=["told: 2 found, 0 found, 1 found; noted 0, 2",
                                "found: 1 found, 2 told, 0 told; noted 0"],
                      b=["told: 0 found", "found: 0 found; noted 0", "found: 0 told; noted 0"], c=["found: -"],
                      d=["told: 1 told, 0 found; noted 1", "told: 0 told, 1 told; noted 1"])
        other = book_of(table, a=["told: 2 found, 0 found, 1 found; noted 0", "told: 1 told, 2 told, 0 told; noted 0",
                                  "found: 1 told, 0 found, 2 told; noted 0"],
                        b=["found: 0 found; noted 0", "found: 0 found"], c=["told: -"],
                        d=["found: 0 told, 1 found; noted 1", "found: 0 found, 1 told"])
        self.assertEqual(plain.size_of(least_worse(one, other)), 2)

    def test_sizes_by_chance(self):
        chance = random.Random(53)
        sizes = {}
        for _ in range(120):
            table = some_table(chance, True)
            one, other = some_book(chance, table, 2), some_book(chance, table, 2)
            program = least_worse(one, other)
            self.assertIs(program is None, one <= other)
            least = self.least_size(one, other, {sign: table[sign] for sign in table}, 26)
            if program is None:
                self.assertIsNone(least)
                continue
            self.assertGreater(measured(one, other, program)[2], 0)
            self.assertEqual(plain.noted_spots(program), set())
            size = plain.size_of(program)
            sizes[size] = True
            self.assertTrue(size == least or size > 26 and least is None, (size, least))
        self.assertGreaterEqual(len(sizes), 4)

    def least_size(self, one, other, rules, limit):
        """The least size with a found surplus above 0, from the greatest told surpluses of each size."""
        best = {}
        for size in range(1, limit + 1):
            best[size] = {(0, 0): 0} if size == 1 else {}
            for sign, (places, _) in rules.items():
                for sizes in product(range(1, size), repeat=len(places)):
                    if sum(sizes) == size - 1:
                        self.take(one[sign], other[sign], [best[part] for part in sizes], best[size])
            if any(surplus + state[0] - state[1] > 0 for state, surplus in best[size].items()):
                return size
        return None

    def take(self, ways, its_ways, below, best):
        for parts in product(*below):
            told, found = own_need(ways, [part[0] for part in parts])
            its_told, its_found = own_need(its_ways, [part[1] for part in parts])
            state = (found - told, its_found - its_told)
            surplus = told - its_told + sum(surpluses[part] for part, surpluses in zip(parts, below))
            best[state] = max(best.get(state, surplus), surplus)


class FullBooks(unittest.TestCase):
    def test_a_full_book_against_itself(self):
        table = table_of(leaf="", wrap="b", pair="pb", three="ppb")
        book = full_book(table)
        row = compare(book, book)
        self.assertEqual(row.greatest, 0)
        self.assertEqual(set(row.weights.values()), {0})
        self.assertTrue(book <= book)
        self.assertIsNone(least_worse(book, book))


if __name__ == "__main__":
    unittest.main()
