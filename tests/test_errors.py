"""Point 2 and the interface of limitrun/errors.py."""

import unittest

from limitrun import errors

WITH_FIELDS = (
    (errors.SyntaxProblem, (3, 14), ("line", "column")),
    (errors.BadClaim, (5,), ("index",)),
    (errors.BadPath, (0,), ("index",)),
    (errors.TooLong, (50,), ("limit",)),
    (errors.NoVariable, ("x",), ("name",)),
)
WITH_MESSAGE = (
    errors.InvalidOrdinal, errors.NotLater, errors.ZeroDivisor, errors.NoEvent, errors.OutOfRange,
    errors.Incompatible, errors.NotReached, errors.NoBreakpoint, errors.NoMark, errors.InvalidCommand,
)


class ErrorTest(unittest.TestCase):
    def test_the_base_class_stands_directly_under_value_error(self):
        self.assertEqual(errors.LimitRunError.__bases__, (ValueError,))

    def test_each_class_stands_directly_under_the_base_class(self):
        for kind in [row[0] for row in WITH_FIELDS] + list(WITH_MESSAGE):
            with self.subTest(kind=kind.__name__):
                self.assertEqual(kind.__bases__, (errors.LimitRunError,))

    def test_each_class_is_defined_in_its_file(self):
        for kind in [errors.LimitRunError] + [row[0] for row in WITH_FIELDS] + list(WITH_MESSAGE):
            self.assertEqual(kind.__module__, "limitrun.errors")

    def test_arguments_become_fields(self):
        for kind, arguments, fields in WITH_FIELDS:
            with self.subTest(kind=kind.__name__):
                error = kind(*arguments)
                self.assertEqual(tuple(getattr(error, field) for field in fields), arguments)
                with self.assertRaises(errors.LimitRunError):
                    raise error

    def test_the_other_classes_are_made_with_a_message(self):
        for kind in WITH_MESSAGE:
            with self.subTest(kind=kind.__name__):
                error = kind("some message")
                self.assertIn("some message", str(error))
                with self.assertRaises(errors.LimitRunError):
                    raise error


if __name__ == "__main__":
    unittest.main()
