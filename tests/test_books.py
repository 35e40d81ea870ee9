"""Books: reading, setting and joining of ways, what follows for all programs, and the best and cheapest books."""

import random
import unittest
from itertools import product

import plain
from chance import all_ways, some_book, some_table
from kindnotes.books import Book, best_books, cheapest_book, full_book, least_guess, quiet_signs
from kindnotes.checking import Checker, Scope
from kindnotes.errors import BadWay, MustGuess, TooMany, UnknownSign
from kindnotes.kinds import Stock, kinds_of_size
from kindnotes.rules import Table, first_guess, good_ways, parse_way, rule
from sample import NONE, ONE, book, call, empty_book, fun, more, noted, table

SIGNS = ["fun", "call", "one", "none", "more", "let", "same"]
FUN_WAY = ("found", ((0, "found"),), (0,))
CALL_WAY = ("found", ((0, "found"), (1, "told")), ())


class Ways(unittest.TestCase):
    def test_a_new_book_has_none(self):
        row = empty_book()
        self.assertEqual([row[sign] for sign in SIGNS], [()] * 7)
        self.assertEqual(row.lines(), [])

    def test_setting(self):
        row = empty_book()
        row["fun"] = (FUN_WAY,)
        self.assertEqual(row["fun"], (FUN_WAY,))
        self.assertEqual(row["call"], ())
        row["fun"] = [parse_way("told: 0 told"), FUN_WAY]
        self.assertEqual(row["fun"], (parse_way("told: 0 told"), FUN_WAY))
        row["fun"] = ()
        self.assertEqual(row["fun"], ())
        row["fun"] = []
        self.assertEqual(row["fun"], ())

    def test_unknown_signs(self):
        row = empty_book()
        for sign in ("odd", "", "Fun", "let "):
            with self.assertRaises(UnknownSign) as caught:
                row[sign]
            self.assertEqual(caught.exception.sign, sign)
            with self.assertRaises(UnknownSign) as caught:
                row[sign] = ()
            self.assertEqual(caught.exception.sign, sign)
        self.assertEqual(list(row), SIGNS)

    def refuses(self, sign, *rows):
        for way in rows:
            for ways in ((way,), [way], (good_ways(table().stock, table()[sign])[0], way)):
                row = book()
                before = row[sign]
                with self.assertRaises(BadWay, msg=repr(way)):
                    row[sign] = ways
                self.assertEqual(row[sign], before)

    def test_what_way_does_not_return(self):
        self.refuses("fun", (), ("found",), ("found", ((0, "found"),)), ("found", ((0, "found"),), (), ()),
                     ["found", ((0, "found"),), ()], ("found", [(0, "found")], ()), ("found", ((0, "found"),), []),
                     ("found", ([0, "found"],), ()), ("odd", ((0, "found"),), ()), ("found", ((0, "odd"),), ()),
                     ("found", ((0, "found", 0),), ()), ("found", ((0,),), ()), ("found", (0,), ()),
                     ("found", ((1, "found"),), ()), ("found", ((0, "found"), (0, "found")), ()), None, "found", 5,
                     (None, ((0, "found"),), ()), ("found", None, ()), ("found", ((0, "found"),), None),
                     ("found", ((0, "found"),), (0, 0)), ("found", ((0, "found"),), (1,)), "found: 0 found")
        self.refuses("call", ("found", ((0, "found"), (0, "told")), ()), ("found", ((1, "found"), (2, "told")), ()),
                     ("found", ((0, "found"), ("1", "told")), ()), ("found", ((0, "found"), (-1, "told")), ()))

    def test_what_the_rule_does_not_fit(self):
        self.refuses("fun", ("found", (), ()), CALL_WAY, parse_way("found: 0 found, 1 found; noted 1"))
        self.refuses("call", FUN_WAY, parse_way("found: 0 found, 1 told; noted 0"), parse_way("found: -"),
                     parse_way("found: 0 found, 1 told; noted 1"), parse_way("found: 0 found, 1 told; noted 0, 1"),
                     parse_way("told: 0 told, 1 told, 2 told"))
        self.refuses("one", FUN_WAY, CALL_WAY)
        self.refuses("let", parse_way("found: 0 found, 1 found; noted 0"),
                     parse_way("told: 1 told, 0 told; noted 0, 1"))
        self.refuses("same", CALL_WAY, FUN_WAY, parse_way("told: 0 told, 1 told, 2 told; noted 2"))

    def test_noted_places_ascend(self):
        made = Table(Stock({"i": "", "n": ""}))
        made["t"] = rule(("A", "A"), ("A", "A"), whole="A")
        row = Book(made)
        steps = ((1, "told"), (0, "found"))
        row["t"] = [("told", steps, (0, 1))]
        for noted_places in ((1, 0), (0, 0), (0, 1, 1)):
            with self.assertRaises(BadWay):
                row["t"] = [("told", steps, noted_places)]
        self.assertEqual(row["t"], (("told", steps, (0, 1)),))

    def test_every_way_of_a_rule_fits_it(self):
        made = table()
        row = Book(made)
        for sign in made:
            ways = all_ways(made[sign])
            row[sign] = ways
            self.assertEqual(row[sign], tuple(ways))

    def test_what_is_passed_is_copied(self):
        row = empty_book()
        ways = [FUN_WAY]
        row["fun"] = ways
        ways.append(parse_way("told: 0 told"))
        self.assertEqual(row["fun"], (FUN_WAY,))
        self.assertEqual(ways, [FUN_WAY, parse_way("told: 0 told")])

    def test_books_share_nothing_but_the_table(self):
        made = table()
        one, other = Book(made), Book(made)
        one["fun"] = [FUN_WAY]
        self.assertEqual(other["fun"], ())

    def test_iterating(self):
        made = table()
        row = Book(made)
        self.assertEqual(list(row), SIGNS)
        made["last"] = rule(whole=("int",))
        self.assertEqual(list(row), [*SIGNS, "last"])
        self.assertEqual(row["last"], ())
        row["last"] = [parse_way("found: -")]
        self.assertEqual(row["last"], (("found", (), ()),))


class Joining(unittest.TestCase):
    def test_the_ways_that_are_lacking(self):
        made = table()
        one, other = Book(made), Book(made)
        texts = ("told: 0 told", "found: 0 found; noted 0", "told: 0 found")
        first, second, third = [parse_way(text) for text in texts]
        one["fun"] = [first, second]
        other["fun"] = [third, second, third]
        other["one"] = [parse_way("found: -")]
        held = one
        one += other
        self.assertIs(one, held)
        self.assertEqual(one["fun"], (first, second, third))
        self.assertEqual(one["one"], (parse_way("found: -"),))
        self.assertEqual(one["none"], ())
        self.assertEqual(other["fun"], (third, second, third))
        one += other
        self.assertEqual(one["fun"], (first, second, third))

    def test_with_itself_and_with_nothing(self):
        row = book()
        before = row.lines()
        row += row
        self.assertEqual(row.lines(), before)
        row += Book(row.table)
        self.assertEqual(row.lines(), before)
        nothing = Book(row.table)
        nothing += row
        self.assertEqual(nothing.lines(), before)

    def test_later_changes_of_the_other(self):
        made = table()
        one, other = Book(made), Book(made)
        other["fun"] = [FUN_WAY]
        one += other
        other["fun"] = ()
        self.assertEqual(one["fun"], (FUN_WAY,))

    def test_books_of_another_table(self):
        made = Table(Stock({"i": "", "n": ""}))
        made["one"] = rule(whole=("i",))
        made["odd"] = rule(whole=("i",))
        made["fun"] = rule(whole=("i",))
        row, other = book(), Book(made)
        before = row.lines()
        row += other
        self.assertEqual(row.lines(), before)
        other["one"] = [parse_way("told: -")]
        other["odd"] = [parse_way("told: -")]
        with self.assertRaises(UnknownSign) as caught:
            row += other
        self.assertEqual(caught.exception.sign, "odd")
        self.assertEqual(row.lines(), before)
        other["odd"] = ()
        other["fun"] = [parse_way("told: -")]
        with self.assertRaises(BadWay):
            row += other
        self.assertEqual(row.lines(), before)
        other["fun"] = ()
        row += other
        self.assertEqual(row["one"], (parse_way("found: -"), parse_way("told: -")))

    def test_double_ways_of_its_own_stay(self):
        row = empty_book()
        row["fun"] = [FUN_WAY, FUN_WAY]
        row += Book(row.table)
        self.assertEqual(row["fun"], (FUN_WAY, FUN_WAY))


class Lines(unittest.TestCase):
    def test_lines(self):
        made = Table(Stock({"i": "", "n": ""}))
        made["abcdefghijkl"] = rule(whole=("i",))
        made["t"] = rule(("A", "A"), (None, "A"), whole="A")
        row = Book(made)
        row["t"] = [parse_way("told: 1 found, 0 told"), parse_way("found: 0 found, 1 told; noted 0")]
        row["abcdefghijkl"] = [parse_way("found: -")]
        self.assertEqual(row.lines(), [
            "abcdefghijkl  0  found: -",
            "t             0  told: 1 found, 0 told",
            "t             1  found: 0 found, 1 told; noted 0",
        ])
        row["t"] = [parse_way("told: 1 found, 0 told")] * 101
        self.assertEqual(row.lines()[10], "t             9  told: 1 found, 0 told")
        self.assertEqual(row.lines()[11], "t            10  told: 1 found, 0 told")
        self.assertEqual(row.lines()[101], "t           100  told: 1 found, 0 told")
        self.assertEqual(len(row.lines()), 102)


class FullBook(unittest.TestCase):
    def test_the_good_ways(self):
        for flat in (False, True):
            made = table(flat)
            row = full_book(made)
            for sign in made:
                self.assertEqual(sorted(row[sign]), sorted(good_ways(made.stock, made[sign])))
                self.assertTrue(row[sign])


class Under(unittest.TestCase):
    def test_examples(self):
        whole = book()
        guessing = book(none=["found: -"])
        self.assertTrue(guessing <= whole)
        self.assertFalse(whole <= guessing)
        self.assertTrue(whole <= whole)
        fewer = book(call=["found: 0 found, 1 told"])
        self.assertFalse(fewer <= whole)
        self.assertTrue(whole <= fewer)
        apart = book(call=["told: 1 found, 0 told"])
        self.assertFalse(apart <= fewer)
        self.assertFalse(fewer <= apart)

    def test_by_chance(self):
        chance = random.Random(59)
        for _ in range(40):
            made = some_table(chance, True)
            one, other = some_book(chance, made, 2), some_book(chance, made, 2)
            if chance.random() < 0.5:
                one += other
                self.assertTrue(one <= other)
            rules = {sign: made[sign] for sign in made}
            under = one <= other
            known = {}
            for size in (1, 2, 3, 4):
                for program in plain.bare_programs(rules, size, known)[:300]:
                    if under:
                        self.assertLessEqual(one.need(program), other.need(program))


class QuietSigns(unittest.TestCase):
    def test_examples(self):
        self.assertEqual(quiet_signs(book()), ["one"])
        self.assertEqual(quiet_signs(book(none=["found: -"], fun=["found: 0 found; noted 0"])),
                         SIGNS)
        self.assertEqual(quiet_signs(Book(Table(Stock({"i": "", "n": ""})))), [])

    def test_parts_make_a_difference(self):
        ways = {"fun": ["found: 0 told; noted 0"], "call": ["found: 0 found, 1 found"],
                "let": ["found: 1 told, 0 told"], "more": ["found: 0 found, 1 told"],
                "same": ["found: 0 found, 1 found, 2 found"], "one": ["found: -"]}
        self.assertEqual(quiet_signs(book(none=["told: -"], **ways)), ["fun", "call", "one", "more", "let", "same"])
        self.assertEqual(quiet_signs(book(none=["found: -"], **ways)), SIGNS)
        ways["more"] = ["found: 0 found, 1 told", "told: 0 told, 1 told"]
        self.assertEqual(quiet_signs(book(none=["found: -"], **ways)), SIGNS)
        self.assertEqual(quiet_signs(book(none=["told: -"], **ways)), ["fun", "call", "one", "let", "same"])

    def test_by_chance(self):
        chance = random.Random(61)
        for _ in range(60):
            made = some_table(chance, True)
            row = some_book(chance, made, 3)
            ways = {sign: row[sign] for sign in made}
            # Programs of both differences, as far as there are any, and what each sign makes of them.
            samples = {0: "x"}
            for _ in range(2):
                differences = {sign: [] for sign in made}
                for sign in made:
                    for parts in product(list(samples.values()), repeat=len(made[sign][0])):
                        blocks = zip(made[sign][0], parts)
                        node = (sign, *[(bound and "x", None, part) for (bound, _), part in blocks])
                        told, found = plain.needs(ways, node)
                        samples.setdefault(found - told, node)
                        differences[sign].append(found - told)
            quiet = quiet_signs(row)
            self.assertEqual(quiet, [sign for sign in made if sign in quiet])
            for sign in made:
                self.assertEqual(sign in quiet, 1 not in differences[sign])


class LeastGuess(unittest.TestCase):
    def check(self, row, size):
        program = least_guess(row)
        self.assertEqual(plain.size_of(program), size, program)
        stock = row.table.stock
        names = Scope(stock)
        for name in plain.free_names(program):
            names[name] = next(kinds_of_size(stock, 1))
        with self.assertRaises(MustGuess):
            Checker(row)(program, names)
        self.assertTrue(all(note is None or len(note) == 1 and stock.fits(note) for note in self.notes_of(program)))
        return program

    def test_none_with_good_ways(self):
        self.assertIsNone(least_guess(book()))
        self.assertIsNone(least_guess(book(True)))

    def test_examples(self):
        self.assertEqual(self.check(book(none=["found: -"]), 1), NONE)
        self.check(book(fun=["found: 0 found"]), 2)
        self.check(book(fun=["found: 0 told; noted 0"]), 3)
        self.check(book(same=["found: 0 told, 1 told, 2 found"]), 4)
        self.check(book(fun=["told: 0 told", "found: 0 found"]), 2)

    def test_a_told_way_with_a_guess(self):
        # Only a told call guesses: a note around it or a node that tells it a kind is needed.
        row = book(call=["found: 0 found, 1 told", "told: 0 told, 1 told"])
        program = self.check(row, 4)
        self.assertEqual(program, noted(call(NONE, "x"), program[2]))
        row = book(call=["told: 0 told, 1 told"])
        self.check(row, 4)

    def test_no_guess_if_a_good_way_always_passes_first(self):
        self.assertIsNone(least_guess(book(call=["found: 0 found, 1 told", "found: 0 found, 1 found"])))
        self.assertIsNone(least_guess(book(one=["found: -", "told: -"], none=["told: -"])))
        self.assertIsNone(least_guess(book(fun=["told: 0 told", "told: 0 told; noted 0"])))
        row = book(fun=["told: 0 told", "told: 0 found; noted 0"], none=["told: -"])
        self.assertIsNone(least_guess(row))

    def test_notes_at_bound_names(self):
        row = book(fun=["told: 0 found", "found: 0 told; noted 0"])
        program = self.check(row, 3)
        self.assertEqual(len(plain.noted_spots(program)), 1)

    def test_by_chance(self):
        chance = random.Random(67)
        sizes = {}
        for _ in range(70):
            made = some_table(chance, chance.random() < 0.5)
            row = some_book(chance, made, 3)
            program = least_guess(row)
            size = self.least_size(row, made, 6)
            if program is None:
                self.assertIsNone(size)
                continue
            self.check(row, plain.size_of(program))
            sizes[plain.size_of(program)] = True
            self.assertTrue(size in (plain.size_of(program), None), (program, size))
        self.assertGreaterEqual(len(sizes), 4)

    def notes_of(self, part):
        if isinstance(part, str):
            return []
        if part[0] == ":":
            return [part[2], *self.notes_of(part[1])]
        return [note for block in part[1:] for note in [block[1], *self.notes_of(block[2])]]

    def least_size(self, row, made, limit):
        """The least size of a program that must guess, as far as that can be tried out."""
        known = {}
        ways = {sign: row[sign] for sign in made}
        for size in range(1, limit + 1):
            if len(known.get(size - 1, ())) > 1200:
                return None
            for program in plain.noted_programs({sign: made[sign] for sign in made}, ("i",), size, known):
                try:
                    taken = plain.taken(ways, program, False, plain.noted_spots(program))
                except plain.Still:
                    continue
                rules = [made[plain.part_at(program, path)[0]] for path, _ in taken]
                if any(first_guess(made.stock, one, way) for one, (_, way) in zip(rules, taken)):
                    return size
        return None


def few_table(*names):
    """A table with some of the signs of the sample."""
    whole = table()
    made = Table(whole.stock)
    for name in names:
        made[name] = whole[name]
    return made


class OneWayBooks(unittest.TestCase):
    def one_way_books(self, made):
        signs = list(made)
        books = []
        for chosen in product(*[good_ways(made.stock, made[sign]) for sign in signs]):
            row = Book(made)
            for sign, way in zip(signs, chosen):
                row[sign] = (way,)
            books.append(row)
        return books

    def check_best(self, made):
        best = best_books(made)
        self.assertIsInstance(best, list)
        books = self.one_way_books(made)
        for row in best:
            self.assertTrue(any([row[sign] for sign in made] == [one[sign] for sign in made] for one in books))
            self.assertFalse(any(other <= row and not row <= other for other in books))
        for row in books:
            none_better = not any(other <= row and not row <= other for other in books)
            same = [other for other in best if other <= row and row <= other]
            self.assertEqual(len(same), 1 if none_better else 0)
        return best

    def test_best_books(self):
        self.assertEqual([list(row) for row in best_books(Table(Stock({"i": "", "n": ""})))], [[]])
        self.assertEqual([row["one"] for row in self.check_best(few_table("one"))], [(("found", (), ()),)])
        self.assertEqual(len(self.check_best(few_table("fun"))), 1)
        self.assertEqual(len(self.check_best(few_table("call"))), 1)
        self.check_best(few_table("call", "fun"))
        self.check_best(few_table("call", "none"))
        self.check_best(few_table("let", "none"))
        self.check_best(few_table("call", "fun", "none", "one"))
        self.check_best(few_table("let", "fun"))

    def test_one_of_those_that_never_differ(self):
        made = Table(Stock({"i": "", "n": ""}))
        made["t"] = rule((None, "A"), (None, "A"), whole=("i",))
        self.assertEqual(len(good_ways(made.stock, made["t"])), 2)
        self.assertEqual(len(self.check_best(made)), 1)
        made["leaf"] = rule(whole="A")
        self.assertEqual(len(self.check_best(made)), 2)

    def test_best_books_by_chance(self):
        chance = random.Random(71)
        tried = 0
        for _ in range(40):
            made = some_table(chance, True)
            if len(self.one_way_books(made)) <= 12:
                self.check_best(made)
                tried += 1
        self.assertGreater(tried, 15)

    def test_cheapest_book(self):
        made = few_table("call", "fun", "none")
        fun_x, head = fun("x", "x"), call(fun("x", "x"), NONE)
        for programs in ([], [fun_x], [fun_x, call(fun_x, fun_x)], [NONE, head], [fun("x", NONE, ("int",))] * 3,
                         [call("f", fun_x), call("f", NONE), head], [call(NONE, "x")] * 2, [noted(fun_x, ("int",))]):
            row = cheapest_book(made, programs)
            costs = {}
            for one in self.one_way_books(made):
                ways = {sign: one[sign] for sign in made}
                costs[tuple(ways.values())] = sum(plain.needs(ways, program)[1] for program in programs)
            self.assertIn(tuple(row[sign] for sign in made), costs)
            self.assertEqual(costs[tuple(row[sign] for sign in made)], min(costs.values()), programs)

    def test_the_cheapest_of_two(self):
        made = few_table("fun")
        self.assertEqual(cheapest_book(made, [fun("x", "x", ("int",))])["fun"], (FUN_WAY,))
        self.assertEqual(cheapest_book(made, [fun("x", fun("y", "y"))])["fun"], (parse_way("told: 0 told"),))
        many = [fun("x", fun("y", "y"))] * 2
        self.assertEqual(cheapest_book(made, [*many, fun("x", "x", ("int",))])["fun"], (parse_way("told: 0 told"),))

    def test_twelve_and_more(self):
        made = few_table("let", "fun")
        self.assertEqual([len(good_ways(made.stock, made[sign])) for sign in made], [4, 2])
        made["more"] = table()["more"]
        self.assertEqual(len(good_ways(made.stock, made["more"])), 2)
        for asked in (lambda: best_books(made), lambda: cheapest_book(made, []), lambda: cheapest_book(made, ["x"])):
            with self.assertRaises(TooMany):
                asked()
        made = Table(Stock({"i": "", "n": ""}))
        made["t"] = rule((None, "A"), (None, "A"), (None, "A"), whole=("i",))
        made["leaf"] = rule((None, "A"), whole="A")
        made["two"] = rule((None, "A"), whole="A")
        self.assertEqual(len(self.one_way_books(made)), 12)
        self.check_best(made)
        self.assertTrue(cheapest_book(made, ["x"])["t"])
        made["one"] = rule(whole=("i",))
        self.check_best(made)
        made["six"] = rule((None, "A"), whole="A")
        for asked in (lambda: best_books(made), lambda: cheapest_book(made, ["x"])):
            with self.assertRaises(TooMany):
                asked()

    def test_very_many(self):
        made = Table(table().stock)
        for sign in ("a", "b", "c", "d", "e", "f", "g", "h"):
            made[sign] = rule(("A", "B"), ("B", "C"), ("C", "A"), whole=("fn", "A", ("pair", "B", "C")))
        with self.assertRaises(TooMany):
            best_books(made)

    def test_sample_parts(self):
        self.assertIn(more(ONE, noted(NONE, ("list", ("int",)))), book())
        self.assertNotIn(more(ONE, NONE), book())


if __name__ == "__main__":
    unittest.main()
