"""Points 8 and 13: which programs have a kind, and the judgements of a checker."""

import random
import unittest

import plain
from chance import good_book, language_of, some_program, some_table
from kindnotes.books import Book, full_book
from kindnotes.checking import Checker, Found, Noted, Scope, Told
from kindnotes.errors import KindClash, StandsStill
from kindnotes.kinds import Stock, kinds_of_size
from kindnotes.rules import Table, parse_way, rule
from sample import INT, NONE, NUM, ONE, TEXT, book, call, fun, let, more, noted, same, scope

NAMES = {"x": INT, "y": NUM, "z": TEXT, "f": ("fn", NUM, INT), "g": ("fn", INT, NUM), "l": ("list", INT)}


def check(row, program, kind=None, names=NAMES):
    return Checker(row)(program, scope(row.table.stock.flat, **names), kind)


def shown(judgements):
    return [(judged.__class__.__name__, judged.path, judged.kind, judged.filling) for judged in judgements]


def fn(one, other):
    return "fn", one, other


def many(one):
    return "list", one


class Names(unittest.TestCase):
    def accepts(self, program, kind, row=None, names=NAMES):
        self.assertTrue(check(row or book(), program, kind, names))

    def refuses(self, program, kind=None, row=None, names=NAMES):
        with self.assertRaises(KindClash, msg=f"{program} {kind}"):
            check(row or book(), program, kind, names)

    def test_names(self):
        self.accepts("x", INT)
        self.accepts("x", NUM)
        self.accepts("x", None)
        self.refuses("y", INT)
        self.refuses("x", TEXT)
        self.refuses("x", many(INT))
        self.refuses("l", INT)

    def test_names_in_a_flat_stock(self):
        row = book(flat=True)
        self.accepts("x", INT, row)
        self.refuses("x", NUM, row)
        self.refuses("y", INT, row)
        self.accepts(noted("x", INT), INT, row)
        self.refuses(noted("x", NUM), NUM, row)
        self.refuses(noted("x", INT), NUM, row)

    def test_noted_parts(self):
        self.accepts(noted("x", NUM), NUM)
        self.accepts(noted("x", NUM), None)
        self.accepts(noted("x", INT), NUM)
        self.refuses(noted("x", NUM), INT)
        self.refuses(noted("y", INT), NUM)
        self.refuses(noted("y", INT))
        self.refuses(noted("x", TEXT), TEXT)
        self.refuses(noted("x", NUM), TEXT)

    def test_nodes_without_parts(self):
        self.accepts(ONE, INT)
        self.accepts(ONE, NUM)
        self.refuses(ONE, TEXT)
        self.refuses(ONE, many(INT))
        self.accepts(NONE, many(TEXT))
        self.accepts(NONE, many(fn(INT, INT)))
        self.refuses(NONE, INT)
        self.refuses(NONE, fn(INT, INT))
        self.refuses(noted(ONE, TEXT))

    def test_calls(self):
        self.accepts(call("f", "x"), INT)
        self.accepts(call("f", "y"), NUM)
        self.accepts(call("g", "x"), NUM)
        self.refuses(call("g", "y"))
        self.refuses(call("g", "x"), INT)
        self.refuses(call("f", "z"))
        self.refuses(call("x", "x"))
        self.refuses(call("l", "x"))
        self.refuses(call("f", "f"))

    def test_bound_names_hide_equal_outer_names(self):
        self.accepts(fun("x", "x", TEXT), fn(TEXT, TEXT))
        self.refuses(fun("x", "x", TEXT), fn(TEXT, INT))
        self.accepts(fun("x", fun("x", "x", TEXT), INT), fn(INT, fn(TEXT, TEXT)))
        self.refuses(fun("x", fun("x", "x", TEXT), INT), fn(INT, fn(TEXT, INT)))
        self.accepts(call(fun("x", ONE, TEXT), "z"), INT)
        self.accepts(call(fun("z", "z", INT), "x"), INT)
        self.refuses(call(fun("x", "x", TEXT), "x"))
        self.accepts(let("x", "z", call(fun("y", "x", TEXT), "x")), TEXT)
        self.accepts(let("x", "x", call("f", "x")), INT)

    def test_a_note_at_a_bound_name_is_its_kind_exactly(self):
        self.accepts(fun("a", "a", NUM), fn(INT, NUM))
        self.refuses(fun("a", "a", NUM), fn(INT, INT))
        self.refuses(fun("a", "a", INT), fn(NUM, NUM))
        self.refuses(fun("a", "a", INT), fn(NUM, NUM), book(fun=["told: 0 told"]))
        self.accepts(fun("a", "a", NUM), fn(INT, NUM), book(fun=["told: 0 told"]))
        self.accepts(fun("a", ONE, NUM), fn(INT, INT), book(fun=["told: 0 told"]))
        self.accepts(let("a", "x", "a", NUM), NUM)
        self.refuses(let("a", "x", "a", NUM), INT)
        self.refuses(let("a", "y", "a", INT))
        self.refuses(let("a", "x", "a", NUM), None, book(True))

    def test_notes_that_the_way_does_not_ask_for(self):
        row = book(let=["found: 0 found, 1 found"])
        self.assertEqual(check(row, let("a", "x", "a"))[-1].kind, INT)
        self.assertEqual(check(row, let("a", "x", "a", NUM))[-1].kind, NUM)
        self.assertEqual(check(row, let("a", "x", "a", NUM))[-1].filling, {"A": NUM, "B": NUM})
        self.refuses(let("a", "x", "a", TEXT), None, row)
        row = book(fun=["told: 0 told"])
        self.assertEqual(check(row, fun("a", ONE, NUM), fn(INT, NUM))[-1].filling, {"A": NUM, "B": NUM})
        self.assertEqual(check(row, fun("a", ONE), fn(INT, NUM))[-1].filling, {"A": INT, "B": NUM})

    def test_two_notes_that_clash(self):
        table = Table(Stock({"int": "", "num": ""}, {"int": "num"}))
        table["t"] = rule(("A", "A"), ("A", "A"), whole="A")
        row = Book(table)
        row["t"] = [parse_way("found: 0 told, 1 told; noted 0, 1")]
        names = Scope(table.stock)
        names["x"] = INT
        checker = Checker(row)
        self.assertEqual(checker(("t", ("a", NUM, "x"), ("b", NUM, "b")), names)[-1].kind, NUM)
        for one, other in ((INT, NUM), (NUM, INT)):
            with self.assertRaises(KindClash):
                checker(("t", ("a", one, "x"), ("b", other, "x")), names)

    def test_parts_that_must_meet(self):
        self.accepts(same("x", "y", "x"), NUM)
        self.refuses(same("x", "y", "x"), INT)
        self.assertEqual(check(book(), same("x", "y", "x"))[-1].kind, NUM)
        self.assertEqual(check(book(), same("x", "x", "x"))[-1].kind, INT)
        self.refuses(same("x", "z", "x"))
        self.refuses(same("x", "x", "z"))
        self.assertEqual(check(book(), same("f", "g", "f"))[-1].kind, fn(INT, NUM))
        self.refuses(same("x", "y", "x"), None, book(True))
        self.assertEqual(check(book(True), same("x", "x", "x"))[-1].kind, INT)

    def test_marks(self):
        row = book(fun=["told: 0 told", "found: 0 found; noted 0"])
        self.accepts("f", fn(INT, NUM))
        self.refuses("g", fn(NUM, NUM))
        self.refuses("g", fn(INT, INT))
        self.accepts(noted("f", fn(INT, INT)), fn(INT, NUM))
        self.accepts(fun("a", "a"), fn(INT, NUM), row)
        self.refuses(fun("a", "a"), fn(NUM, INT), row)
        self.accepts(fun("a", call("a", "x")), fn(fn(NUM, INT), NUM), row)
        self.refuses(fun("a", call("a", "y")), fn(fn(INT, INT), NUM), row)

    def test_a_sink(self):
        table = Table(Stock({"int": "", "num": "", "sink": "-"}, {"int": "num"}))
        table["put"] = rule((None, ("sink", "A")), (None, "A"), whole=INT)
        table["both"] = rule((None, ("sink", "A")), (None, ("sink", "A")), whole=("sink", "A"))
        row = full_book(table)
        names = Scope(table.stock)
        for name, kind in (("x", INT), ("y", NUM), ("i", ("sink", INT)), ("n", ("sink", NUM))):
            names[name] = kind
        checker = Checker(row)

        def put(one, other):
            return "put", (None, None, one), (None, None, other)

        for one, other in (("i", "x"), ("n", "x"), ("n", "y")):
            self.assertEqual(checker(put(one, other), names)[-1].kind, INT)
        with self.assertRaises(KindClash):
            checker(put("i", "y"), names)
        both = ("both", (None, None, "i"), (None, None, "n"))
        self.assertEqual(checker(both, names)[-1].kind, ("sink", INT))
        checker(both, names, ("sink", INT))
        with self.assertRaises(KindClash):
            checker(both, names, ("sink", NUM))

    def test_bases_in_forms(self):
        table = Table(Stock({"int": "", "num": "", "text": "", "sink": "-"}, {"int": "num"}))
        table["told"] = rule(whole=NUM)
        table["from"] = rule((None, NUM), whole=INT)
        table["away"] = rule((None, ("sink", INT)), whole=("sink", NUM))
        row = Book(table)
        row["told"] = [parse_way("told: -")]
        row["from"] = [parse_way("told: 0 found")]
        row["away"] = [parse_way("told: 0 found")]
        names = {"x": INT, "y": NUM, "z": TEXT, "i": ("sink", INT), "n": ("sink", NUM), "t": ("sink", TEXT)}
        held = Scope(table.stock)
        for name in names:
            held[name] = names[name]
        right = [(("told",), NUM), (self.node("from", "x"), INT), (self.node("from", "y"), NUM),
                 (self.node("away", "i"), ("sink", INT)), (self.node("away", "n"), ("sink", NUM))]
        wrong = [(("told",), INT), (("told",), TEXT), (self.node("from", "z"), INT), (self.node("from", "x"), TEXT),
                 (self.node("away", "t"), ("sink", INT)), (self.node("away", "i"), ("sink", TEXT)),
                 (self.node("away", "i"), INT), (self.node("from", "i"), INT)]
        for program, kind in right:
            self.assertEqual(Checker(row)(program, held, kind)[-1].kind, kind)
        for program, kind in wrong:
            with self.assertRaises(KindClash, msg=f"{program} {kind}"):
                Checker(row)(program, held, kind)
        table["dear"] = rule((None, INT), (None, ("sink", NUM)), whole=INT)
        row["dear"] = [parse_way("found: 0 found, 1 found")]
        self.assertEqual(Checker(row)(self.node("dear", "x", "n"), held)[-1].kind, INT)
        for parts in (("y", "n"), ("x", "i"), ("z", "n"), ("x", "t")):
            with self.assertRaises(KindClash, msg=repr(parts)):
                Checker(row)(self.node("dear", *parts), held)

    def node(self, sign, *parts):
        return (sign, *[(None, None, part) for part in parts])

    def test_between_a_lower_and_an_upper_kind(self):
        row = book(call=["told: 0 told, 1 found", "told: 1 found, 0 told", "found: 0 found, 1 found"],
                   same=["told: 0 found, 1 found, 2 told"])
        self.accepts(same("x", "x", "x"), NUM, row)
        self.accepts(same("x", "y", "x"), NUM, row)
        self.refuses(same("y", "x", "x"), INT, row)
        self.refuses(same("x", "x", "y"), INT, row)
        self.refuses(same("x", "z", "x"), TEXT, row)
        self.refuses(call("g", "y"), None, row)
        self.accepts(call("f", "x"), None, row)


class Judgements(unittest.TestCase):
    def test_a_name(self):
        self.assertEqual(shown(check(book(), "x")), [("Found", (), INT, {})])
        self.assertEqual(shown(check(book(), "x", NUM)), [("Found", (), INT, {})])
        self.assertEqual(shown(check(book(), noted("x", NUM))), [("Noted", (), NUM, {})])
        self.assertEqual(shown(check(book(), noted("x", INT), NUM)), [("Noted", (), INT, {})])

    def test_a_node_that_is_told(self):
        self.assertEqual(shown(check(book(), NONE, many(TEXT))), [("Told", (), many(TEXT), {"A": TEXT})])
        self.assertEqual(shown(check(book(), noted(NONE, many(INT)), many(NUM))),
                         [("Noted", (), many(INT), {"A": INT})])
        self.assertEqual(shown(check(book(), fun("a", "a"), fn(INT, NUM))), [
            ("Found", (0,), INT, {}), ("Told", (), fn(INT, NUM), {"A": INT, "B": NUM})])

    def test_a_node_with_a_found_whole(self):
        self.assertEqual(shown(check(book(), ONE)), [("Found", (), INT, {})])
        self.assertEqual(shown(check(book(), ONE, NUM)), [("Found", (), INT, {})])
        self.assertEqual(shown(check(book(), noted(ONE, NUM))), [("Noted", (), NUM, {})])
        self.assertEqual(shown(check(book(), call("f", "x"), NUM)), [
            ("Found", (0,), fn(NUM, INT), {}), ("Found", (1,), INT, {}), ("Found", (), INT, {"A": NUM, "B": INT})])
        self.assertEqual(shown(check(book(), noted(call("f", "x"), NUM))), [
            ("Found", (0,), fn(NUM, INT), {}), ("Found", (1,), INT, {}), ("Noted", (), NUM, {"A": NUM, "B": INT})])

    def test_parts_in_the_order_of_the_steps(self):
        row = book(call=["told: 1 found, 0 told"])
        self.assertEqual(shown(check(row, call("f", "x"), NUM)), [
            ("Found", (1,), INT, {}), ("Found", (0,), fn(NUM, INT), {}), ("Told", (), NUM, {"A": INT, "B": NUM})])
        row = book(True, same=["found: 1 found, 2 told, 0 told"])
        self.assertEqual([judged.path for judged in check(row, same("x", ONE, noted("x", INT)))],
                         [(1,), (2,), (0,), ()])

    def test_told_parts_are_told_the_filled_place(self):
        program = more(noted("y", NUM), more(ONE, NONE))
        self.assertEqual(shown(check(book(), program, many(NUM))), [
            ("Noted", (0,), NUM, {}), ("Found", (1, 0), INT, {}), ("Told", (1, 1), many(NUM), {"A": NUM}),
            ("Told", (1,), many(NUM), {"A": NUM}), ("Told", (), many(NUM), {"A": NUM})])

    def test_a_noted_node_comes_after_its_parts_and_once(self):
        program = let("a", noted(call("f", "x"), NUM), noted(call("g", "x"), NUM))
        self.assertEqual([(judged.__class__, judged.path) for judged in check(book(), program)], [
            (Found, (0, 0)), (Found, (0, 1)), (Noted, (0,)), (Found, (1, 0)), (Found, (1, 1)), (Noted, (1,)),
            (Found, ())])

    def test_the_classes(self):
        noted_one = Noted((1,), INT, {"A": NUM})
        self.assertIsInstance(noted_one, Told)
        self.assertIsInstance(noted_one, Found)
        self.assertNotIsInstance(Told((), INT, {}), Found)
        self.assertNotIsInstance(Found((), INT, {}), Told)
        self.assertEqual((noted_one.path, noted_one.kind, noted_one.filling), ((1,), INT, {"A": NUM}))

    def test_judgements_and_fillings_are_not_shared(self):
        given = {"A": NUM}
        for judged in (Told((), INT, given), Found((), INT, given), Noted((), INT, given)):
            judged.filling["B"] = INT
        self.assertEqual(given, {"A": NUM})
        checker = Checker(book())
        names = scope(**NAMES)
        rows = checker(call("f", "x"), names)
        rows[-1].filling.clear()
        rows.clear()
        self.assertEqual(checker(call("f", "x"), names)[-1].filling, {"A": NUM, "B": INT})

    def test_the_checker_follows_the_book_as_it_is(self):
        row = book()
        checker = Checker(row)
        names = scope(**NAMES)
        with self.assertRaises(StandsStill):
            checker(same(NONE, "x", "x"), names)
        self.assertEqual(len(checker(same("x", "x", "x"), names)), 4)
        row["same"] = [parse_way("found: 2 found, 1 found, 0 found")]
        self.assertEqual([judged.path for judged in checker(same("x", "x", "x"), names)], [(2,), (1,), (0,), ()])


class ByTheWords(unittest.TestCase):
    def test_programs_by_chance(self):
        """Every accepted program has judgements as asked, no refused one has a kind, and found kinds are least."""
        chance = random.Random(23)
        counts = {"accepted": 0, "refused": 0}
        for turn in range(70):
            table = some_table(chance, turn % 3 == 0)
            universe = [kind for size in (1, 2, 3) for kind in kinds_of_size(table.stock, size)]
            universe = [("i",), ("n",)] + chance.sample([kind for kind in universe if len(kind) > 1], 6)
            checker = Checker(good_book(chance, table))
            for _ in range(12):
                names = {name: chance.choice(universe) for name in "xyz"}
                program = some_program(chance, table, chance.choice((1, 2)), 0.35, universe)
                kind = chance.choice(universe) if chance.random() < 0.6 else None
                outcome = self.check_one(language_of(table), checker, names, program, kind, universe)
                if outcome:
                    counts[outcome] += 1
        self.assertGreater(counts["accepted"], 60)
        self.assertGreater(counts["refused"], 60)

    def check_one(self, language, checker, names, program, kind, universe):
        held = Scope(checker.book.table.stock)
        for name in names:
            held[name] = names[name]
        try:
            judgements = checker(program, held, kind)
        except StandsStill:
            return None
        except KindClash:
            judgements = None
        known = {}
        has = [one for one in universe if language.has_kind(program, one, names, universe, known)]
        if judgements is None:
            self.assertFalse(has if kind is None else kind in has, (program, names, kind))
            return "refused"
        root = judgements[-1].kind
        self.assertTrue(kind is None or language.is_under(root, kind))
        self.assertTrue(kind is not None or all(language.is_under(root, one) for one in has), (program, names))
        by_path = {judged.path: judged for judged in judgements}
        self.assertEqual(len(by_path), len(judgements))
        self.assertEqual(self.walked(language, by_path, program, (), names), len(judgements))
        return "accepted"

    def walked(self, language, by_path, part, path, names):
        """Hold the judgements of a part and all inside it against point 13; gives their number."""
        judged = by_path[path]
        self.assertEqual(isinstance(judged, Noted), part[0] == ":")
        if part[0] == ":":
            self.assertEqual(judged.kind, part[2])
            part = part[1]
        if isinstance(part, str):
            self.assertEqual(judged.filling, {})
            self.assertTrue(isinstance(judged, Found) and language.is_under(names[part], judged.kind))
            self.assertTrue(isinstance(judged, Noted) or judged.kind == names[part])
            return 1
        row_rule = language.rules[part[0]]
        letters = {letter for form in plain.forms_of(row_rule) for letter in plain.letters_of(form)}
        self.assertEqual(set(judged.filling), letters)
        whole = plain.filled(row_rule[1], judged.filling)
        self.assertTrue(language.is_under(whole, judged.kind))
        self.assertTrue(judged.__class__ is not Found or whole == judged.kind)
        count = 1
        for at, ((bound, form), (name, note, inner)) in enumerate(zip(row_rule[0], part[1:])):
            deeper = dict(names)
            if name is not None:
                deeper[name] = plain.filled(bound, judged.filling)
                self.assertIn(note, (None, deeper[name]))
            count += self.walked(language, by_path, inner, (*path, at), deeper)
            below = by_path[*path, at]
            place = plain.filled(form, judged.filling)
            self.assertTrue(language.is_under(below.kind, place))
            self.assertTrue(below.__class__ is not Told or below.kind == place)
        return count


if __name__ == "__main__":
    unittest.main()
