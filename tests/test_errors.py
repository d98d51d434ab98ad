import unittest

from framejoins import errors
from helpers import LARGE, NO_INTEGERS

# Name, direct base class, and field of each error.
ERRORS = (
    ("InvalidNumber", errors.JoinError, "value"),
    ("InvalidJoint", errors.JoinError, "value"),
    ("InvalidSound", errors.JoinError, "index"),
    ("InvalidTables", errors.JoinError, "value"),
    ("InvalidPlan", errors.JoinError, "index"),
    ("InvalidStream", errors.JoinError, "index"),
    ("InvalidCommand", errors.JoinError, "value"),
    ("ParseError", errors.JoinError, "line"),
    ("ScriptError", errors.JoinError, "line"),
    ("InvalidPlace", IndexError, "value"),
    ("UnknownName", KeyError, "name"),
    ("LimitExceeded", OverflowError, "limit"),
    ("NothingToUndo", RuntimeError, "count"),
)

VALUES = NO_INTEGERS + (0, -7, LARGE, 10 ** 5000, object(), int, [[[[[1]]]]])


class ErrorsTest(unittest.TestCase):

    def test_base_classes(self):
        self.assertEqual(errors.JoinError.__bases__, (ValueError,))
        for name, base, field in ERRORS:
            self.assertEqual(getattr(errors, name).__bases__, (base,), name)

    def test_there_are_no_other_errors(self):
        found = sorted(name for name, value in vars(errors).items() if isinstance(value, type))
        self.assertEqual(found, sorted([name for name, base, field in ERRORS] + ["JoinError"]))

    def test_field_by_position_and_by_name(self):
        for name, base, field in ERRORS:
            kind = getattr(errors, name)
            for value in VALUES:
                self.assertIs(getattr(kind(value), field), value, name)
                self.assertIs(getattr(kind(**{field: value}), field), value, name)

    def test_the_argument_itself_is_kept(self):
        for name, base, field in ERRORS:
            value = [1, [2]]
            error = getattr(errors, name)(value)
            value.append(3)
            self.assertIs(getattr(error, field), value)
            self.assertEqual(value, [1, [2], 3])

    def test_field_is_required_and_the_only_one(self):
        for name, base, field in ERRORS:
            kind = getattr(errors, name)
            with self.assertRaises(TypeError):
                kind()
            with self.assertRaises(TypeError):
                kind(1, 2)
            self.assertEqual(vars(kind(1)), {field: 1})

    def test_no_error_is_an_instance_of_another_one(self):
        for name, base, field in ERRORS:
            error = getattr(errors, name)(1)
            for other, other_base, other_field in ERRORS:
                self.assertEqual(isinstance(error, getattr(errors, other)), name == other, (name, other))

    def test_join_errors(self):
        self.assertIsInstance(errors.JoinError(), ValueError)
        for name, base, field in ERRORS:
            error = getattr(errors, name)(1)
            self.assertEqual(isinstance(error, errors.JoinError), base is errors.JoinError, name)
            self.assertNotIsInstance(errors.JoinError(), getattr(errors, name))

    def test_errors_can_be_raised_and_caught(self):
        for name, base, field in ERRORS:
            kind = getattr(errors, name)
            with self.assertRaises(base) as caught:
                raise kind(**{field: "x"})
            self.assertIs(type(caught.exception), kind)


if __name__ == "__main__":
    unittest.main()
