"""[3]: the errors, their base and their fields."""

import unittest

from imagetones import errors

WITH_STRING = ["InvalidSignal", "InvalidDial", "InvalidTone", "InvalidBand", "InvalidNumber",
               "Impossible", "NothingToUndo", "InvalidCommand"]
WITH_FIELD = {"InvalidReceiver": "index", "InvalidLooks": "index", "InvalidSignals": "index",
              "InvalidSyntax": "word"}


class Errors(unittest.TestCase):
    def test_base(self):
        self.assertEqual(errors.ToneError.__bases__, (ValueError,))
        self.assertEqual(str(errors.ToneError("why")), "why")
        self.assertEqual(errors.ToneError("why").args, ("why",))

    def test_each_error_is_a_direct_subclass(self):
        for name in WITH_STRING + list(WITH_FIELD):
            self.assertEqual(getattr(errors, name).__bases__, (errors.ToneError,), name)

    def test_there_are_no_other_errors(self):
        found = [name for name, value in vars(errors).items()
                 if isinstance(value, type) and issubclass(value, ValueError)]
        self.assertEqual(sorted(found), sorted(WITH_STRING + list(WITH_FIELD) + ["ToneError"]))

    def test_errors_with_one_string(self):
        for name in WITH_STRING:
            error = getattr(errors, name)("why")
            self.assertEqual((str(error), error.args), ("why", ("why",)), name)

    def test_errors_with_a_field(self):
        for name, field in WITH_FIELD.items():
            for value in (None, 0, 3, 10 ** 30):
                for error in (getattr(errors, name)(value), getattr(errors, name)(**{field: value})):
                    self.assertEqual(getattr(error, field), value, name)
                    self.assertIsInstance(error, errors.ToneError)

    def test_the_field_must_be_passed(self):
        for name in WITH_FIELD:
            self.assertRaises(TypeError, getattr(errors, name))
            self.assertRaises(TypeError, getattr(errors, name), 1, 2)

    def test_field_errors_are_raised_and_caught_by_their_base(self):
        for name, field in WITH_FIELD.items():
            with self.assertRaises(errors.ToneError) as caught:
                raise getattr(errors, name)(2)
            self.assertEqual(getattr(caught.exception, field), 2)


if __name__ == "__main__":
    unittest.main()
