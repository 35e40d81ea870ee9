"""Point 9: ways and their texts."""

import unittest
from itertools import permutations, product

from kindnotes.errors import BadWay
from kindnotes.rules import parse_way, way, way_text

DIRECTIONS = ("told", "found")


def all_ways():
    """All ways, written out without the program."""
    ways = []
    for count in range(4):
        for whole, order in product(DIRECTIONS, permutations(range(count))):
            for directions, chosen in product(product(DIRECTIONS, repeat=count), product((0, 1), repeat=count)):
                noted = tuple(place for place in range(count) if chosen[place])
                ways.append((whole, tuple(zip(order, directions)), noted))
    return ways


def spelled(row):
    """The text of a way, spelled out without the program."""
    whole, steps, noted = row
    text = whole + ": "
    for at, (place, direction) in enumerate(steps):
        text += (", " if at else "") + "012"[place] + " " + direction
    if not steps:
        text += "-"
    for at, place in enumerate(noted):
        text += (", " if at else "; noted ") + "012"[place]
    return text


class Way(unittest.TestCase):
    def test_every_way(self):
        for whole, steps, noted in all_ways():
            self.assertEqual(way(whole=whole, places=steps, noted=noted), (whole, steps, noted))

    def test_no_steps(self):
        self.assertEqual(way(whole="told", places=()), ("told", (), ()))
        self.assertEqual(way(whole="found", places=[]), ("found", (), ()))

    def test_steps_keep_their_order(self):
        steps = ((2, "told"), (0, "found"), (1, "told"))
        self.assertEqual(way(whole="found", places=steps), ("found", steps, ()))

    def test_lists_become_tuples(self):
        made = way(whole="told", places=[(1, "told"), (0, "found")], noted=[1])
        self.assertEqual(made, ("told", ((1, "told"), (0, "found")), (1,)))
        self.assertIsInstance(made[1], tuple)
        self.assertIsInstance(made[2], tuple)

    def test_noted_places_in_any_order(self):
        steps = ((1, "told"), (2, "told"), (0, "found"))
        for noted in permutations((0, 1, 2)):
            for given in (noted, list(noted)):
                self.assertEqual(way(whole="told", places=steps, noted=given)[2], (0, 1, 2))
        self.assertEqual(way(whole="told", places=steps, noted=[2, 0])[2], (0, 2))
        self.assertEqual(way(whole="told", places=steps, noted=(2, 1))[2], (1, 2))

    def test_lists_that_are_passed_are_unchanged(self):
        steps, noted = [(1, "told"), (0, "found")], [1, 0]
        made = way(whole="told", places=steps, noted=noted)
        self.assertEqual((steps, noted), ([(1, "told"), (0, "found")], [1, 0]))
        steps.append((2, "told"))
        noted.append(2)
        self.assertEqual(made, ("told", ((1, "told"), (0, "found")), (0, 1)))

    def assert_bad(self, whole, places, noted=()):
        with self.assertRaises(BadWay, msg=repr((whole, places, noted))):
            way(whole=whole, places=places, noted=noted)

    def test_another_direction_of_the_whole(self):
        for direction in ("", "tell", "Told", "told ", "find", "FOUND", "noted", "t", None):
            self.assert_bad(direction, ())
            self.assert_bad(direction, ((0, "told"),), (0,))

    def test_another_direction_of_a_step(self):
        for direction in ("", "tell", "Told", "found ", "find", "FOUND", "noted", "f", None):
            self.assert_bad("told", ((0, direction),))
            self.assert_bad("told", ((0, direction), (1, "told")))
            self.assert_bad("found", ((1, "found"), (2, "told"), (0, direction)))

    def test_places_that_are_missing_or_come_twice(self):
        for places in ((1,), (2,), (-1,), (0, 0), (1, 1), (0, 2), (1, 2), (-1, 0), (0, -1), (0, 1, 1), (0, 1, 3),
                       (1, 2, 3), (0, 0, 0), (2, 2, 0), (0, 1, -1), (-1, -2, 0)):
            self.assert_bad("told", [(place, "told") for place in places])

    def test_more_than_three_places(self):
        for count in (4, 5, 12):
            self.assert_bad("told", [(place, "found") for place in range(count)])
        self.assert_bad("told", [(place, "found") for place in (3, 1, 2, 0)])

    def test_noted_places_that_come_twice(self):
        steps = ((1, "told"), (0, "told"), (2, "found"))
        for noted in ((0, 0), [1, 1], (0, 1, 0), (2, 2, 2), [0, 1, 2, 1]):
            self.assert_bad("told", steps, noted)

    def test_noted_places_that_are_none(self):
        self.assert_bad("told", (), (0,))
        self.assert_bad("told", ((0, "told"),), (1,))
        self.assert_bad("told", ((0, "told"),), [0, 1])
        self.assert_bad("told", ((0, "told"), (1, "told")), (2,))
        self.assert_bad("told", ((0, "told"), (1, "told")), (-1,))
        self.assert_bad("told", ((0, "told"), (1, "told")), (2, 0))
        self.assert_bad("told", ((0, "told"), (1, "told"), (2, "told")), [3])

    def test_arguments_are_told_by_name(self):
        with self.assertRaises(TypeError):
            way("told", ())


class Texts(unittest.TestCase):
    def test_texts_by_hand(self):
        self.assertEqual(way_text(("told", (), ())), "told: -")
        self.assertEqual(way_text(("found", (), ())), "found: -")
        self.assertEqual(way_text(("told", ((0, "found"),), ())), "told: 0 found")
        self.assertEqual(way_text(("found", ((0, "found"), (1, "told")), (0, 1))),
                         "found: 0 found, 1 told; noted 0, 1")
        self.assertEqual(way_text(("told", ((2, "told"), (0, "found"), (1, "told")), (1,))),
                         "told: 2 told, 0 found, 1 told; noted 1")
        self.assertEqual(way_text(("found", ((1, "told"), (2, "told"), (0, "told")), (0, 1, 2))),
                         "found: 1 told, 2 told, 0 told; noted 0, 1, 2")

    def test_there_and_back(self):
        for row in all_ways():
            self.assertEqual(way_text(row), spelled(row))
            self.assertEqual(parse_way(spelled(row)), row)

    def test_texts_that_differ_in_one_character(self):
        texts = {spelled(row): row for row in all_ways()}
        marks = " 0123-,;:\ntfnNT\t.\u0661"
        for text in sorted(texts):
            changed = [text[:at] + text[at + 1:] for at in range(len(text))]
            changed += [text[:at] + mark + text[at:] for at in range(len(text) + 1) for mark in marks]
            changed += [text[:at] + mark + text[at + 1:] for at in range(len(text)) for mark in marks]
            for other in changed[::1 if len(text) < 24 else 7]:
                if other in texts:
                    self.assertEqual(parse_way(other), texts[other])
                else:
                    with self.assertRaises(BadWay, msg=repr(other)):
                        parse_way(other)

    def test_texts_that_no_way_has(self):
        for text in (
            "", "told", "told:", "told: ", "told:-", "told: -\n", "\ntold: -", " told: -", "told: - ", "told : -",
            "told:  -", "Told: -", "tell: -", "told: - -", "told: -, 0 told", "told: 0", "told: told", "told: 0  told",
            "told: 0 told,", "told: 0 told, ", "told: 0 told,1 told", "told: 0 told,  1 told", "told: 0 told; 1 told",
            "told: 0 told 1 told", "told: 00 told", "told: +0 told", "told: 1 told", "told: 0 told, 0 told",
            "told: 0 told, 2 told", "told: 0 told, 1 told, 2 told, 3 told", "told: 0 told; noted", "told: 0 told; noted ",
            "told: 0 told; noted 1", "told: 0 told; noted 0, 0", "told: 0 told; noted 00", "told: 0 told;noted 0",
            "told: 0 told, 1 told; noted 1, 0", "told: 0 told, 1 told; noted 0,1", "told: 0 told, 1 told; noted 0 1",
            "told: 0 told; noted 0\n", "told: 0 told; noted 0 ", "told: 0 told; noted 0,", "told: 0 told; noted -",
            "told: 0 told; noted 0; noted 0", "told: -; noted ", "told: -; noted 0", "told: -; noted -", "told: 0 Told",
            "told: 0 told; Noted 0", "told: told: -", "told: 0 told: 1 told", "told: 0 told; noted noted 0",
            "told: \u0660 told", "told: 0 told; noted \u0660", "told: 0 told\r", "told: 0\u00a0told", "found: -found: -",
            "told: 0 told, -", "-", ": -", ": 0 told", "; noted 0", "told; noted 0", "told: ; noted 0",
        ):
            with self.assertRaises(BadWay, msg=repr(text)):
                parse_way(text)


if __name__ == "__main__":
    unittest.main()
