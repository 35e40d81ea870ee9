"""Point 2: words, letters and forms; form and fill."""

import unittest

from kindnotes.errors import BadKind, LetterUnknown
from kindnotes.kinds import fill, form


class Form(unittest.TestCase):
    def test_a_word_alone(self):
        self.assertEqual(form("i"), ("i",))

    def test_words_of_one_and_twelve_letters(self):
        for word in ("a", "z", "m", "az", "abcdefghijkl", "zzzzzzzzzzzz"):
            self.assertEqual(form(word), (word,))

    def test_each_small_letter_may_stand_in_a_word(self):
        for letter in "abcdefghijklmnopqrstuvwxyz":
            self.assertEqual(form(letter + "x" + letter), (letter + "x" + letter,))

    def test_words_that_are_none(self):
        for word in ("", "abcdefghijklm", "a" * 40, "A", "AB", "aB", "Ba", "a1", "1", "a b", " a", "a ", "a\n", "\n",
                     "a_b", "_", "-", "a-b", "a.b", "\u00e4", "\u0131", "a\u00df", "`", "{", "a{", "@"):
            with self.assertRaises(BadKind, msg=repr(word)):
                form(word)
            with self.assertRaises(BadKind, msg=repr(word)):
                form(word, "A")

    def test_up_to_three_parts(self):
        self.assertEqual(form("list", "A"), ("list", "A"))
        self.assertEqual(form("fn", "A", ("i",)), ("fn", "A", ("i",)))
        self.assertEqual(form("tri", ("i",), "Z", ("list", "A")), ("tri", ("i",), "Z", ("list", "A")))

    def test_a_fourth_part(self):
        with self.assertRaises(BadKind):
            form("four", "A", "B", "C", "D")
        with self.assertRaises(BadKind):
            form("five", "A", "B", "C", "D", "E")

    def test_letters_as_parts(self):
        for letter in "ABCDEFGHIJKLMNOPQRSTUVWXYZ":
            self.assertEqual(form("list", letter), ("list", letter))

    def test_strings_that_are_no_forms(self):
        for part in ("", "a", "AB", "word", "Ab", "1", " ", "\n", "A\n", "[", "@", "\u00c4"):
            for parts in ((part,), ("A", part), (part, "A"), ("A", ("i",), part)):
                with self.assertRaises(BadKind, msg=repr(part)):
                    form("w", *parts)

    def test_tuples_that_are_no_forms(self):
        bad = (
            (), ("",), ("A",), ("A", "B"), ("abcdefghijklm",), ("a1",), ("w", "x"), ("w", "A", "AB"), ("w", ()),
            ("w", "A", "B", "C", "D"), ("w", ("v", ("u", "x"))), ("w", "A", ("v", ("U",))), (("w",),), ("w", None),
            (("w",), "A"), ("w", ("v", "A", "B", "C", "D")), ("w", ["v"]),
        )
        for part in bad:
            for parts in ((part,), ("A", part), (part, "A"), ("A", "B", part)):
                with self.assertRaises(BadKind, msg=repr(part)):
                    form("w", *parts)

    def test_the_last_of_many_parts_is_looked_at(self):
        with self.assertRaises(BadKind):
            form("w", "A", "B", ("w", "A", "B", ("w", "A", "B", "c")))

    def test_forms_somewhat_beyond_sixty_words(self):
        row = ("i",)
        for _ in range(80):
            row = form("list", row)
        words = 0
        while len(row) > 1:
            words, row = words + 1, row[1]
        self.assertEqual((words, row), (80, ("i",)))


class Fill(unittest.TestCase):
    def test_a_letter(self):
        self.assertEqual(fill("A", {"A": ("i",)}), ("i",))
        self.assertEqual(fill("A", {"A": "B"}), "B")

    def test_a_form_without_letters_is_the_same(self):
        row = ("fn", ("i",), ("list", ("i",)))
        self.assertEqual(fill(row, {}), row)
        self.assertEqual(fill(row, {"A": ("b",)}), row)

    def test_each_letter_gets_its_own_form_at_each_place(self):
        row = ("tri", "A", ("fn", "B", "A"), ("list", "C"))
        filling = {"A": ("i",), "B": ("fn", ("b",), ("i",)), "C": ("b",), "D": ("no",)}
        filled = ("tri", ("i",), ("fn", ("fn", ("b",), ("i",)), ("i",)), ("list", ("b",)))
        self.assertEqual(fill(row, filling), filled)

    def test_parts_keep_their_order(self):
        row = ("tri", ("tri", "A", "B", "C"), ("pair", "B", "A"), ("tri", "C", "A", "B"))
        filling = {"A": ("a",), "B": ("b", "X"), "C": ("c",)}
        filled = (
            "tri", ("tri", ("a",), ("b", "X"), ("c",)), ("pair", ("b", "X"), ("a",)),
            ("tri", ("c",), ("a",), ("b", "X")),
        )
        self.assertEqual(fill(row, filling), filled)

    def test_letters_inside_the_replacements_stay(self):
        self.assertEqual(fill(("fn", "A", "B"), {"A": "B", "B": "A"}), ("fn", "B", "A"))
        self.assertEqual(fill(("list", "A"), {"A": ("list", "A")}), ("list", ("list", "A")))
        self.assertEqual(fill(("fn", "A", "B"), {"A": ("list", "C"), "B": "A"}), ("fn", ("list", "C"), "A"))

    def test_the_first_missing_letter_from_the_left(self):
        cases = (
            ("B", {}, "B"),
            (("fn", "B", "A"), {}, "B"),
            (("fn", "A", "B"), {"A": ("i",)}, "B"),
            (("fn", "A", "B"), {"B": ("i",)}, "A"),
            (("fn", ("fn", ("i",), "D"), "C"), {}, "D"),
            (("fn", ("i",), ("fn", ("list", "C"), "A")), {"B": ("i",)}, "C"),
            (("tri", "A", ("list", ("list", "Z")), "B"), {"A": "A"}, "Z"),
            (("fn", "A", "Q"), {"A": ("list", "P")}, "Q"),
        )
        for row, filling, letter in cases:
            with self.assertRaises(LetterUnknown) as caught:
                fill(row, filling)
            self.assertEqual(caught.exception.letter, letter)

    def test_the_dict_is_unchanged(self):
        filling = {"A": ("i",), "B": ("list", "A")}
        fill(("fn", "A", "B"), filling)
        with self.assertRaises(LetterUnknown):
            fill(("fn", "A", "C"), filling)
        self.assertEqual(filling, {"A": ("i",), "B": ("list", "A")})

    def test_very_deep_forms(self):
        row = "A"
        for _ in range(60):
            row = ("list", row)
        for _ in range(5):
            row = fill(row, {"A": row})
        words = 0
        while row != "A":
            words, row = words + 1, row[1]
        self.assertEqual(words, 60 * 32)


if __name__ == "__main__":
    unittest.main()
