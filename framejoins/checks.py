"""Checks of arguments that several modules need."""

from framejoins.errors import InvalidNumber, InvalidPlace, InvalidSound, UnknownName

BLOCK_LIMIT = 64
NAME_LIMIT = 8
LETTERS = "abcdefghijklmnopqrstuvwxyz"


def is_integer(value):
    """Return whether the value is an integer; truth values are none."""
    return isinstance(value, int) and not isinstance(value, bool)


def is_within(value, low, high):
    """Return whether the value is an integer from low to high."""
    return is_integer(value) and low <= value <= high


def is_name(value):
    """Return whether the value is a string of 1 to 8 lowercase letters."""
    return isinstance(value, str) and 1 <= len(value) <= NAME_LIMIT and value.strip(LETTERS) == ""


def check_name(value):
    """Raise UnknownName for a value that is not a name."""
    if not is_name(value):
        raise UnknownName(value)


def check_integer(value):
    """Raise InvalidNumber for a value that is not an integer."""
    if not is_integer(value):
        raise InvalidNumber(value)


def check_within(value, low, high):
    """Raise InvalidNumber for a value that is not an integer from low to high."""
    if not is_within(value, low, high):
        raise InvalidNumber(value)


def check_stretch(start, end, length):
    """Raise InvalidPlace for places that are no stretch of a sound of this length."""
    for place in (start, end):
        if not is_within(place, 0, length):
            raise InvalidPlace(place)
    if end < start:
        raise InvalidPlace(end)


def check_items(values):
    """Raise InvalidSound for the first item that is not an integer."""
    for index, value in enumerate(values):
        if not is_integer(value):
            raise InvalidSound(index)


def check_sound(values):
    """Raise InvalidSound for a value that is not a list or tuple of integers."""
    if not isinstance(values, (list, tuple)):
        raise InvalidSound(None)
    check_items(values)


def check_block(values, least):
    """Raise InvalidSound for a value that is not a list of least to 64 integers."""
    if not isinstance(values, list) or not least <= len(values) <= BLOCK_LIMIT:
        raise InvalidSound(None)
    check_items(values)
