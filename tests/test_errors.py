"""[4]: the errors."""

import copy
import unittest

from ringsdecide import errors
from tests.helpers import ODD_VALUES, Case

WITH_NUMBER = [
    errors.InvalidKind, errors.InvalidNetwork, errors.InvalidWord, errors.InvalidQuestion, errors.InvalidText,
    errors.NotDeciding, errors.Refused,
]


class Errors(Case):
    def test_classes(self):
        self.assertEqual(errors.RingsError.__bases__, (ValueError,))
        for error in WITH_NUMBER + [errors.InvalidCommand]:
            self.assertEqual(error.__bases__, (errors.RingsError,))

    def test_at_keeps_any_value(self):
        for error in WITH_NUMBER:
            for value in ODD_VALUES + [0, 3]:
                self.assertIs(error(value).at, value)
                self.assertIs(error(at=value).at, value)

    def test_at_is_needed(self):
        for error in WITH_NUMBER:
            with self.assertRaises(TypeError):
                error()

    def test_command_has_no_argument(self):
        self.assertFalse(hasattr(errors.InvalidCommand(), "at"))
        with self.assertRaises(errors.RingsError):
            raise errors.InvalidCommand()

    def test_caught_as_rings_error_and_value_error(self):
        for error in WITH_NUMBER:
            for wider in (error, errors.RingsError, ValueError):
                with self.assertRaises(wider):
                    raise error(2)

    def test_messages_and_copies(self):
        for error in WITH_NUMBER:
            self.assertNotEqual(str(error(5)), "")
            self.assertEqual(copy.copy(error(5)).at, 5)


if __name__ == "__main__":
    unittest.main()
