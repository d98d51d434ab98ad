"""What several tests need: checks of errors, values that are no integers, and fixed number sequences."""

import unittest

LARGE = 10 ** 60 - 1

# Values of all the kinds that are no integers; the truth values stand first, because they look like integers.
NO_INTEGERS = (True, False, None, "1", "", b"1", [1], (1,), {1: 1}, {1}, [], (), {})


class Case(unittest.TestCase):
    """A test case that knows the errors of the package."""

    def fails(self, kind, field, value, call, /, *args, **named):
        """The call raises exactly this kind of error, with this very value in its field, or an equal number or string."""
        with self.assertRaises(kind) as caught:
            call(*args, **named)
        self.assertIs(type(caught.exception), kind)
        found = getattr(caught.exception, field)
        self.assertIs(type(found), type(value))
        if type(value) in (int, str):
            self.assertEqual(found, value)
        else:
            self.assertIs(found, value)


class Fetch:
    """A fetch function that keeps the indexes with which it was called."""

    def __init__(self, records):
        self.records, self.calls = records, []

    def __call__(self, index):
        self.calls.append(index)
        return self.records[index]


def sequence(seed):
    """Endless integers below 2 ** 24, the same in every run and on every Python."""
    state = seed * 1000003 % (2 ** 31 - 2) + 1
    while True:
        state = state * 48271 % (2 ** 31 - 1)
        # The lowest digits of neighbours depend on each other.
        yield state >> 7


def integers(seed, many, size):
    """A list of integers from -size to size."""
    values = []
    source = sequence(seed)
    for place in range(many):
        wide = 0
        for word in range(9):
            wide = wide * 2 ** 24 + next(source)
        values.append(wide % (2 * size + 1) - size)
    return values
