from unittest import TestCase

from typingroom import errors

PLAIN = ["BadRoom", "BadType", "BadWords", "BadEdit", "BadNumber", "BadPlan", "TooLarge"]


class Errors(TestCase):
    def test_the_classes_derive_as_told(self):
        self.assertEqual(errors.TypingError.__bases__, (ValueError,))
        for name in PLAIN + ["BadText", "Dead", "NotWhole"]:
            self.assertEqual(getattr(errors, name).__bases__, (errors.TypingError,), name)

    def test_the_plain_ones_are_raised_with_a_text(self):
        for name in PLAIN:
            with self.assertRaises(errors.TypingError) as caught:
                raise getattr(errors, name)("so it is")
            self.assertEqual(str(caught.exception), "so it is")

    def test_a_bad_text_tells_line_and_column(self):
        error = errors.BadText(3, 14)
        self.assertEqual([error.line, error.column], [3, 14])

    def test_dead_and_not_whole_tell_a_place(self):
        self.assertEqual([errors.Dead(5).place, errors.NotWhole(6).place], [5, 6])
