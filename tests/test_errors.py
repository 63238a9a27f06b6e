"""The classes of errors [1.1], [1.2]."""

import unittest

from renamedown import errors
from tests.common import STRANGE

FORMS = ("InvalidRow", "InvalidDeed", "InvalidMoves", "InvalidPaper", "InvalidOperation", "ParseError")
KEEPERS = {
    "UnknownName": (KeyError, "word"),
    "NoWay": (LookupError, "reason"),
    "InvalidNumber": (IndexError, "value"),
    "NothingToUndo": (RuntimeError, "many"),
    "TooMany": (OverflowError, "limit"),
    "Locked": (ArithmeticError, "step"),
}


class ErrorsTest(unittest.TestCase):
    def test_row_error_is_a_value_error(self):
        self.assertEqual(errors.RowError.__bases__, (ValueError,))

    def test_forms_are_directly_derived_from_row_error(self):
        for name in FORMS:
            self.assertEqual(getattr(errors, name).__bases__, (errors.RowError,), name)

    def test_forms_take_a_message(self):
        for name in FORMS[:5] + ("RowError",):
            self.assertIn("so it is", str(getattr(errors, name)("so it is")))

    def test_parse_error_keeps_its_line(self):
        for line in (None, 0, 7):
            self.assertEqual(errors.ParseError(line).line, line)

    def test_others_are_directly_derived_from_python_errors(self):
        for name, (base, _) in KEEPERS.items():
            self.assertEqual(getattr(errors, name).__bases__, (base,), name)

    def test_others_keep_any_value(self):
        for name, (_, attribute) in KEEPERS.items():
            for value in STRANGE:
                error = getattr(errors, name)(value)
                self.assertIs(getattr(error, attribute), value)

    def test_each_is_caught_by_its_base(self):
        for name, (base, _) in KEEPERS.items():
            with self.assertRaises(base):
                raise getattr(errors, name)(1)
        for name in FORMS:
            with self.assertRaises(ValueError):
                raise getattr(errors, name)(1 if name == "ParseError" else "wrong")


if __name__ == "__main__":
    unittest.main()
