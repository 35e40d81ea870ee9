import unittest

from kindnotes import errors

PLAIN = ("BadKind", "BadRule", "BadWay", "BadProgram", "BadPrices", "TooMany", "KindClash")
WITH_FIELDS = (
    ("LetterUnknown", {"letter": "A"}),
    ("UnknownSign", {"sign": "call"}),
    ("UnknownName", {"name": "hole"}),
    ("NoWay", {"sign": "call"}),
    ("StandsStill", {"spot": ((0, 1), None)}),
    ("MustGuess", {"path": (0, 1), "step": 2, "letter": "B"}),
)


class Errors(unittest.TestCase):
    def test_base_is_a_value_error(self):
        self.assertEqual(errors.NotesError.__bases__, (ValueError,))

    def test_each_error_stands_under_the_base_alone(self):
        for name in PLAIN + tuple(name for name, _ in WITH_FIELDS):
            self.assertEqual(getattr(errors, name).__bases__, (errors.NotesError,), name)

    def test_plain_errors_can_be_raised_with_a_text(self):
        for name in PLAIN:
            with self.assertRaisesRegex(getattr(errors, name), "why"):
                raise getattr(errors, name)("why")

    def test_arguments_are_fields(self):
        for name, fields in WITH_FIELDS:
            by_position = getattr(errors, name)(*fields.values())
            by_name = getattr(errors, name)(**fields)
            for error in (by_position, by_name):
                for field, value in fields.items():
                    self.assertEqual(getattr(error, field), value, name)
                self.assertTrue(str(error))

    def test_arguments_are_needed(self):
        for name, fields in WITH_FIELDS:
            with self.assertRaises(TypeError):
                getattr(errors, name)(*list(fields.values())[1:])

    def test_an_error_may_have_a_cause(self):
        with self.assertRaises(errors.MustGuess) as caught:
            raise errors.MustGuess((), 0, "A") from errors.LetterUnknown("A")
        self.assertIsInstance(caught.exception.__cause__, errors.LetterUnknown)


if __name__ == "__main__":
    unittest.main()
