"""Point [4]: the errors."""

import unittest

from bothplans import errors
from tests.support import PlanCase, Unfriendly

WITH_AT = (errors.InvalidStore, errors.InvalidState, errors.InvalidLot, errors.InvalidQuestion, errors.InvalidText,
           errors.Refused)


class ErrorsTest(PlanCase):
    def test_the_base_is_a_value_error(self):
        self.assertEqual(errors.PlanError.__bases__, (ValueError,))
        self.assertIsInstance(errors.PlanError(), ValueError)

    def test_each_other_one_derives_from_the_base_alone(self):
        for error in WITH_AT + (errors.InvalidCommand,):
            self.assertEqual(error.__bases__, (errors.PlanError,))

    def test_any_value_is_kept_as_at(self):
        for value in (0, 7, -1, None, "x", [1, [2]], {}, Unfriendly(), object()):
            for error in WITH_AT:
                self.assertIs(error(value).at, value)
                self.assertIs(error(at=value).at, value)

    def test_an_invalid_command_takes_nothing(self):
        self.assertIsInstance(errors.InvalidCommand(), errors.PlanError)
        self.assertFalse(hasattr(errors.InvalidCommand(), "at"))

    def test_they_are_caught_one_by_one(self):
        for error in WITH_AT:
            for other in WITH_AT + (errors.InvalidCommand,):
                self.assertEqual(issubclass(error, other), error is other)

    def test_an_error_wants_its_argument(self):
        for error in WITH_AT:
            with self.assertRaises(TypeError):
                error()


if __name__ == "__main__":
    unittest.main()
