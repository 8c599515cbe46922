"""The errors: what each one derives from, and what it keeps."""

import unittest

from stillread import errors

FORMS = (
    "InvalidText", "InvalidBody", "InvalidFrames", "InvalidName", "InvalidCells", "InvalidPoly", "InvalidDeed",
    "InvalidTree", "InvalidSave", "InvalidHistory", "InvalidSketch", "InvalidQuestion", "InvalidDamage",
    "InvalidOperation", "ParseError",
)
KEEPERS = (
    ("ParseError", "at", errors.StillError), ("InvalidNumber", "given", IndexError),
    ("UnknownName", "wanted", KeyError), ("TooMany", "most", OverflowError), ("Refused", "reason", ArithmeticError),
)


class ErrorsTest(unittest.TestCase):
    def test_still_error_derives_from_value_error(self):
        self.assertEqual(errors.StillError.__bases__, (ValueError,))

    def test_forms_derive_directly_from_still_error(self):
        for name in FORMS:
            self.assertEqual(getattr(errors, name).__bases__, (errors.StillError,), name)

    def test_keepers_derive_directly_from_the_told_error(self):
        for name, kept, base in KEEPERS:
            self.assertEqual(getattr(errors, name).__bases__, (base,), name)

    def test_keepers_keep_any_value(self):
        for name, kept, base in KEEPERS:
            for value in (None, True, 7, 10 ** 99, "x", ("gone", "a"), [1], {"a": ()}, ValueError("x")):
                error = getattr(errors, name)(value)
                self.assertIs(getattr(error, kept), value, name)
                self.assertIsInstance(str(error), str)

    def test_others_take_a_message(self):
        for name in FORMS[:-1] + ("StillError",):
            self.assertIn("some words", str(getattr(errors, name)("some words")))

    def test_all_are_defined_in_the_module(self):
        for name in FORMS + ("StillError",) + tuple(keeper[0] for keeper in KEEPERS):
            self.assertEqual(getattr(errors, name).__module__, "stillread.errors")


if __name__ == "__main__":
    unittest.main()
