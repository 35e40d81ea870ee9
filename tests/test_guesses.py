"""Point 10: first guesses and good ways."""

import random
import unittest
from itertools import permutations, product

from kindnotes.kinds import Stock
from kindnotes.rules import first_guess, good_ways, parse_way, rule, way, way_text

SHAPES = {"i": "", "n": "", "list": "+", "sink": "-", "fn": "-+", "both": "+-", "tri": "-+-"}
FLAT = Stock(SHAPES)
ORDERED = Stock(SHAPES, {"i": "n"})
DIRECTIONS = ("found", "told")

LAMBDA = rule(("A", "B"), whole=("fn", "A", "B"))
CALL = rule((None, ("fn", "A", "B")), (None, "A"), whole="B")
LET = rule((None, "A"), ("A", "B"), whole="B")


def letters_of(form, straight=True):
    if isinstance(form, str):
        return [(form, straight)]
    marks = zip(SHAPES[form[0]], form[1:])
    return [pair for mark, part in marks for pair in letters_of(part, straight == (mark == "+"))]


def looks_of(places, whole, row):
    """All looks in their order: the letter, its side, whether at a source, whether at a noted name, the step."""
    direction, steps, noted = row
    looked = []
    if direction == "told":
        looked.append((whole, "above", True, False, None))
    for place in noted:
        looked.append((places[place][0], "below", True, True, None))
    for step, (place, told) in enumerate(steps):
        bound, form = places[place]
        if bound is not None and place not in noted:
            looked.append((bound, "below", False, False, step))
        looked.append((form, "above" if told == "told" else "below", told == "found", False, step))
    if direction == "found":
        looked.append((whole, "below", False, False, len(steps)))
    other = {"above": "below", "below": "above"}
    return [(letter, side if straight else other[side], source, noted_name, step)
            for form, side, source, noted_name, step in looked for letter, straight in letters_of(form)]


def guess_by_the_words(flat, row_rule, row):
    """What point 10 says, word by word."""
    looks = looks_of(*row_rule, row)
    for at, (letter, side, source, _, step) in enumerate(looks):
        if source:
            continue
        before = [look for look in looks[:at] if look[0] == letter]
        after = [look for look in looks[at + 1:] if look[0] == letter]
        exact = any(look[2] and (look[3] or flat) for look in before)
        same = any(look[2] and look[1] == side for look in before)
        later = any(look[2] and look[1] == side for look in after)
        crossed = any(not look[2] and look[1] != side for look in before)
        if not exact and not (same and not later and not crossed):
            return step, letter
    return None


def choices_by_the_words(flat, row_rule):
    """The choices that good_ways keeps, each with all its good ways."""
    places = range(len(row_rule[0]))
    binding = [place for place in places if row_rule[0][place][0] is not None]
    good = {}
    for whole, directions in product(DIRECTIONS, product(DIRECTIONS, repeat=len(places))):
        for chosen in product((False, True), repeat=len(binding)):
            noted = tuple(place for place, taken in zip(binding, chosen) if taken)
            found = frozenset(place for place in places if directions[place] == "found")
            rows = [(whole, tuple((place, directions[place]) for place in order), noted)
                    for order in permutations(places)]
            rows = [row for row in rows if guess_by_the_words(flat, row_rule, row) is None]
            if rows:
                good[whole, found, frozenset(noted)] = rows
    kept = {}
    for choice, rows in good.items():
        others = [other for other in good if other != choice]
        if not any(other[0] in ("found", choice[0]) and other[1] <= choice[1] and other[2] <= choice[2]
                   for other in others):
            kept[choice] = rows
    return kept


def choice_of(row):
    whole, steps, noted = row
    return whole, frozenset(place for place, direction in steps if direction == "found"), frozenset(noted)


def some_rule(chance, words):
    """A rule made by chance, from a fixed start."""
    def form(depth):
        if depth == 0 or chance.random() < 0.55:
            return chance.choice("AAB") if chance.random() < 0.9 else ("i",)
        word = chance.choice(words)
        return (word, *[form(depth - 1) for _ in SHAPES[word]])

    places = []
    for _ in range(chance.choice((0, 1, 2, 2, 3))):
        places.append((form(2) if chance.random() < 0.5 else None, form(2)))
    return rule(*places, whole=form(2))


class FirstGuess(unittest.TestCase):
    def check(self, stock, row_rule, text, answer):
        row = parse_way(text)
        self.assertEqual(first_guess(stock, row_rule, row), answer, (row_rule, text))
        self.assertEqual(guess_by_the_words(stock.flat, row_rule, row), answer, (row_rule, text))

    def check_both(self, row_rule, text, answer):
        self.check(FLAT, row_rule, text, answer)
        self.check(ORDERED, row_rule, text, answer)

    def test_no_places(self):
        self.check_both(rule(whole=("i",)), "found: -", None)
        self.check_both(rule(whole=("i",)), "told: -", None)
        self.check_both(rule(whole="A"), "found: -", (0, "A"))
        self.check_both(rule(whole="A"), "told: -", None)
        self.check_both(rule(whole=("fn", ("i",), ("fn", "C", "B"))), "found: -", (0, "C"))
        self.check_both(rule(whole=("fn", "A", "A")), "told: -", None)

    def test_a_function(self):
        self.check_both(LAMBDA, "told: 0 told", None)
        self.check_both(LAMBDA, "found: 0 found", (0, "A"))
        self.check_both(LAMBDA, "found: 0 told", (0, "A"))
        self.check_both(LAMBDA, "found: 0 found; noted 0", None)
        self.check_both(LAMBDA, "found: 0 told; noted 0", (0, "B"))
        self.check_both(LAMBDA, "told: 0 found", None)
        self.check_both(LAMBDA, "told: 0 told; noted 0", None)

    def test_a_call(self):
        self.check_both(CALL, "found: 0 found, 1 told", None)
        self.check_both(CALL, "found: 0 told, 1 told", (0, "A"))
        self.check_both(CALL, "found: 1 told, 0 found", (0, "A"))
        self.check_both(CALL, "told: 1 found, 0 told", None)
        self.check_both(CALL, "told: 0 told, 1 found", (0, "A"))
        self.check_both(CALL, "found: 1 found, 0 told", (1, "B"))
        self.check_both(CALL, "found: 1 found, 0 found", None)

    def test_a_bound_name_after_another_place(self):
        self.check_both(LET, "found: 0 found, 1 found", None)
        self.check_both(LET, "found: 1 found, 0 found", (0, "A"))
        self.check_both(LET, "found: 1 found, 0 told; noted 1", None)
        self.check_both(LET, "found: 1 told, 0 told; noted 1", (0, "B"))
        self.check_both(LET, "told: 0 found, 1 told", None)
        self.check_both(LET, "told: 0 told, 1 told", (0, "A"))

    def test_a_guess_at_the_whole(self):
        self.check_both(rule((None, ("i",)), whole="A"), "found: 0 told", (1, "A"))
        two = rule((None, "B"), (None, ("sink", "B")), whole=("both", "B", "A"))
        self.check_both(two, "found: 0 found, 1 told", (2, "A"))
        three = rule((None, "A"), (None, "B"), (None, ("sink", "A")), whole="C")
        self.check_both(three, "found: 2 found, 1 found, 0 told", (3, "C"))

    def test_a_guess_at_a_later_step(self):
        row_rule = rule((None, "A"), (None, "B"), (None, "C"), whole=("tri", "A", "B", ("i",)))
        self.check_both(row_rule, "found: 0 found, 1 found, 2 told", (2, "C"))
        self.check_both(row_rule, "found: 2 found, 1 told, 0 found", (1, "B"))
        self.check_both(row_rule, "told: 2 told, 1 told, 0 told", (0, "C"))

    def test_letters_from_left_to_right(self):
        self.check_both(rule((None, ("fn", "B", "A")), whole=("i",)), "told: 0 told", (0, "B"))
        self.check_both(rule((None, ("fn", "A", "B")), whole=("i",)), "told: 0 told", (0, "A"))
        self.check_both(rule((None, ("fn", ("list", "C"), "A")), whole=("i",)), "told: 0 told", (0, "C"))
        self.check_both(rule((None, "B"), whole=("fn", ("fn", "B", "D"), "C")), "found: 0 found", (1, "D"))

    def test_the_bound_name_before_its_place(self):
        self.check_both(rule(("B", "A"), whole=("i",)), "told: 0 told", (0, "B"))
        self.check_both(rule(("B", "A"), whole=("i",)), "told: 0 told; noted 0", (0, "A"))
        self.check_both(rule(("A", "A"), whole=("i",)), "told: 0 found", (0, "A"))
        self.check_both(rule(("A", "A"), whole=("i",)), "told: 0 found; noted 0", None)
        # The first name sees the found place before it, the second comes before its own.
        self.check_both(rule((None, "A"), ("B", "B"), whole=("i",)), "told: 0 found, 1 found", (1, "B"))

    def test_sources_from_above_and_from_below(self):
        # A told whole is known from above, so it serves a told place but not a found whole's or bound name's side.
        self.check(ORDERED, rule(("A", ("i",)), whole="A"), "told: 0 told", (0, "A"))
        self.check(FLAT, rule(("A", ("i",)), whole="A"), "told: 0 told", None)
        self.check_both(rule((None, "A"), whole="A"), "told: 0 told", None)
        self.check_both(rule(("A", ("i",)), whole=("sink", "A")), "told: 0 told", None)
        self.check(ORDERED, rule((None, "A"), whole=("sink", "A")), "told: 0 told", (0, "A"))
        self.check(FLAT, rule((None, "A"), whole=("sink", "A")), "told: 0 told", None)
        self.check_both(rule((None, "A"), whole=("sink", ("sink", "A"))), "told: 0 told", None)
        self.check_both(rule((None, "A"), whole=("list", ("list", "A"))), "told: 0 told", None)
        self.check(ORDERED, rule((None, "A"), whole=("list", ("sink", "A"))), "told: 0 told", (0, "A"))

    def test_found_places_are_known_from_below(self):
        self.check_both(rule((None, "A"), whole="A"), "found: 0 found", None)
        self.check_both(rule((None, "A"), ("A", ("i",)), whole=("i",)), "told: 0 found, 1 told", None)
        self.check(ORDERED, rule((None, "A"), (None, "A"), whole=("i",)), "told: 0 found, 1 told", (1, "A"))
        self.check(FLAT, rule((None, "A"), (None, "A"), whole=("i",)), "told: 0 found, 1 told", None)
        self.check_both(rule((None, ("sink", "A")), (None, "A"), whole=("i",)), "told: 0 found, 1 told", None)
        self.check(ORDERED, rule((None, "A"), whole=("sink", "A")), "found: 0 found", (1, "A"))
        self.check(FLAT, rule((None, "A"), whole=("sink", "A")), "found: 0 found", None)

    def test_a_later_source_on_the_same_side(self):
        between = rule((None, "A"), ("A", ("i",)), (None, "A"), whole=("i",))
        self.check(ORDERED, between, "told: 0 found, 1 told, 2 found", (1, "A"))
        self.check(FLAT, between, "told: 0 found, 1 told, 2 found", None)
        self.check_both(between, "told: 0 found, 2 found, 1 told", None)
        other_side = rule((None, "A"), ("A", ("i",)), (None, ("sink", "A")), whole=("i",))
        self.check_both(other_side, "told: 0 found, 1 told, 2 found", None)

    def test_an_earlier_use_on_the_other_side(self):
        crossed = rule((None, "A"), (None, "A"), ("A", ("i",)), whole="A")
        self.check(ORDERED, crossed, "told: 0 found, 1 told, 2 told", (2, "A"))
        self.check(ORDERED, crossed, "told: 0 found, 2 told, 1 told", (2, "A"))
        self.check(FLAT, crossed, "told: 0 found, 1 told, 2 told", None)
        self.check(ORDERED, crossed, "told: 0 told, 1 told, 2 found", (2, "A"))
        # A source on the other side does no harm, only a use does.
        self.check_both(rule((None, "A"), (None, "A"), whole="A"), "told: 0 found, 1 told", None)

    def test_both_sides_in_one_form(self):
        self.check_both(rule((None, ("fn", "A", "A")), whole=("i",)), "told: 0 found", None)
        twice = rule((None, ("fn", "A", "A")), (None, ("fn", "A", "A")), whole=("i",))
        self.check(ORDERED, twice, "told: 0 found, 1 told", (1, "A"))
        self.check(FLAT, twice, "told: 0 found, 1 told", None)
        # Both sides have a source, and still the two uses in one form may need two kinds.
        self.check(ORDERED, rule((None, ("fn", "A", "A")), whole=("fn", "A", "A")), "told: 0 told", (0, "A"))
        self.check(FLAT, rule((None, ("fn", "A", "A")), whole=("fn", "A", "A")), "told: 0 told", None)

    def test_noted_names_are_exact(self):
        row_rule = rule(("A", ("i",)), (None, "A"), ("A", ("fn", "A", "A")), whole=("fn", "A", "A"))
        for text in ("told: 0 told, 1 told, 2 told; noted 0", "found: 2 told, 1 told, 0 found; noted 0",
                     "found: 1 told, 2 found, 0 told; noted 2", "told: 1 found, 0 told, 2 told; noted 0, 2"):
            self.check_both(row_rule, text, None)
        self.check(ORDERED, row_rule, "told: 0 told, 1 told, 2 told", (1, "A"))
        self.check_both(rule(("A", "B"), whole=("i",)), "told: 0 told; noted 0", (0, "B"))
        self.check_both(rule((("fn", "A", "B"), "C"), (None, ("both", "A", "B")), whole="C"),
                        "told: 1 told, 0 told; noted 0", None)

    def test_rules_made_by_chance(self):
        chance = random.Random(7)
        for _ in range(500):
            row_rule = some_rule(chance, ("list", "sink", "fn", "both"))
            count = len(row_rule[0])
            order = list(range(count))
            for _ in range(6):
                chance.shuffle(order)
                noted = [place for place in order if row_rule[0][place][0] is not None and chance.random() < 0.3]
                steps = [(place, chance.choice(DIRECTIONS)) for place in order]
                row = way(whole=chance.choice(DIRECTIONS), places=steps, noted=noted)
                for stock in (FLAT, ORDERED):
                    self.assertEqual(first_guess(stock, row_rule, row),
                                     guess_by_the_words(stock.flat, row_rule, row), (row_rule, row))


class GoodWays(unittest.TestCase):
    def check(self, stock, row_rule, texts):
        self.assertEqual(sorted(way_text(row) for row in good_ways(stock, row_rule)), sorted(texts), row_rule)

    def check_both(self, row_rule, texts):
        self.check(FLAT, row_rule, texts)
        self.check(ORDERED, row_rule, texts)

    def test_rules_without_places(self):
        self.check_both(rule(whole=("i",)), ["found: -"])
        self.check_both(rule(whole="A"), ["told: -"])
        self.check_both(rule(whole=("list", "A")), ["told: -"])

    def test_a_function(self):
        self.check_both(LAMBDA, ["found: 0 found; noted 0", "told: 0 told"])

    def test_a_call(self):
        self.check_both(CALL, ["found: 0 found, 1 told", "told: 1 found, 0 told"])

    def test_one_place(self):
        self.check_both(rule((None, ("i",)), whole=("n",)), ["found: 0 told"])
        self.check_both(rule((None, "A"), whole="A"), ["found: 0 found", "told: 0 told"])
        self.check_both(rule((None, "A"), whole=("i",)), ["found: 0 found"])
        self.check_both(rule(("A", ("i",)), whole=("n",)), ["found: 0 told; noted 0"])
        self.check_both(rule(("A", "A"), whole=("i",)), ["found: 0 told; noted 0"])
        self.check(FLAT, rule(("A", "A"), whole="A"), ["found: 0 told; noted 0", "told: 0 told"])
        self.check(ORDERED, rule(("A", "A"), whole="A"), ["found: 0 told; noted 0"])

    def test_a_stock_with_an_order_has_fewer(self):
        row_rule = rule((None, "A"), whole=("sink", "A"))
        self.check(FLAT, row_rule, ["found: 0 found", "told: 0 told"])
        self.check(ORDERED, row_rule, ["told: 0 found"])

    def test_a_way_without_uses_is_always_good(self):
        row_rule = rule((("fn", "A", "B"), ("fn", "A", "B")), ("A", "A"), ("B", ("sink", "B")), whole=("fn", "A", "A"))
        for stock in (FLAT, ORDERED):
            self.assertIsNone(first_guess(stock, row_rule, parse_way("told: 0 found, 1 found, 2 found; noted 0, 1, 2")))
            self.assertTrue(good_ways(stock, row_rule))

    def test_three_places(self):
        cond = rule((None, ("i",)), (None, "A"), (None, "A"), whole="A")
        for stock in (FLAT, ORDERED):
            choices = sorted((whole, sorted(found)) for whole, found, _ in map(choice_of, good_ways(stock, cond)))
            expected = [("found", [1, 2]), ("told", [])]
            if stock.flat:
                expected = [("found", [1]), ("found", [2]), ("told", [])]
            self.assertEqual(choices, expected)

    def test_three_bound_names(self):
        row_rule = rule(("A", ("i",)), ("B", ("i",)), ("C", ("i",)), whole=("i",))
        rows = good_ways(ORDERED, row_rule)
        self.assertEqual([choice_of(row) for row in rows], [("found", frozenset(), frozenset((0, 1, 2)))])

    def test_nothing_is_passed_twice_and_all_is_a_way(self):
        chance = random.Random(11)
        counts = [0, 0, 0, 0]
        for _ in range(220):
            row_rule = some_rule(chance, ("list", "sink", "fn", "both", "tri"))
            counts[len(row_rule[0])] += 1
            for stock in (FLAT, ORDERED):
                rows = good_ways(stock, row_rule)
                kept = choices_by_the_words(stock.flat, row_rule)
                self.assertIsInstance(rows, list)
                self.assertEqual(len(rows), len(kept), row_rule)
                for row in rows:
                    self.assertEqual(way(whole=row[0], places=row[1], noted=row[2]), row)
                    self.assertIn(row, kept.get(choice_of(row), ()), row_rule)
                self.assertEqual({choice_of(row) for row in rows}, set(kept), row_rule)
        self.assertTrue(all(count > 20 for count in counts), counts)

    def test_the_largest_rules(self):
        def row(word, count):
            return "A" if count < 2 else (word, row(word, count // 2), row(word, count // 2))

        wide = row("fn", 32)
        rows = good_ways(ORDERED, rule((wide, wide), (wide, wide), (wide, wide), whole=wide))
        self.assertTrue(rows)


if __name__ == "__main__":
    unittest.main()
