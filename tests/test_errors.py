"""Tests of the errors: [0.21]."""

import unittest

from sharedlets import errors

MESSAGES = (
    "InvalidName", "InvalidTerm", "InvalidGraph", "InvalidFamily", "InvalidAddress", "InvalidOperation", "InvalidEdit",
    "ParseError", "InvalidCommand",
)
VALUES = {
    "InvalidNumber": ("value", IndexError), "UnknownName": ("name", KeyError), "TooMany": ("limit", OverflowError),
    "Chained": ("chain", RuntimeError), "NothingToUndo": ("many", LookupError),
}
ALL = tuple(getattr(errors, name) for name in MESSAGES + tuple(VALUES))


class Errors(unittest.TestCase):

    def test_message_errors_are_derived_from_let_error(self):
        self.assertTrue(issubclass(errors.LetError, ValueError))
        for name in MESSAGES:
            kind = getattr(errors, name)
            self.assertEqual(kind.__bases__, (errors.LetError,))
            self.assertEqual(kind.__name__, name)
            self.assertIsInstance(kind("told"), errors.LetError)
        self.assertIsInstance(errors.LetError("told"), ValueError)

    def test_value_errors_are_derived_from_one_of_pythons(self):
        for name, (_, base) in VALUES.items():
            kind = getattr(errors, name)
            self.assertTrue(issubclass(kind, base))
            self.assertFalse(issubclass(kind, errors.LetError))

    def test_no_error_is_derived_from_another_one(self):
        for one in ALL:
            for other in ALL:
                self.assertEqual(issubclass(one, other), one is other)

    def test_value_errors_keep_their_value(self):
        values = (0, -1, 10 ** 39, None, True, "x", (), ("chain", (0,), ((0, 1),)), [1], {"x": 1})
        for name, (attribute, _) in VALUES.items():
            for value in values:
                error = getattr(errors, name)(value)
                self.assertIs(getattr(error, attribute), value)
                with self.assertRaises(getattr(errors, name)) as caught:
                    raise error
                self.assertIs(getattr(caught.exception, attribute), value)

    def test_errors_are_defined_in_their_module(self):
        for kind in ALL + (errors.LetError,):
            self.assertEqual(kind.__module__, "sharedlets.errors")


if __name__ == "__main__":
    unittest.main()
