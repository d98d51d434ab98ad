"""Joints, and the folding of values at them."""

from framejoins.checks import check_integer, check_sound, check_within, is_integer, is_within
from framejoins.errors import InvalidPlan

HARD = (0, 0)
COEFFICIENTS = ((-1, 2), (-2, 3), (1, -2), (2, -3))
SHAPE_LIMIT = 3
WIDTH_LIMIT = 8


def is_joint(value):
    """Return whether the value is a joint."""
    if not isinstance(value, tuple) or len(value) != 2:
        return False
    width, shape = value
    if not is_within(width, 0, WIDTH_LIMIT) or not is_within(shape, 0, SHAPE_LIMIT):
        return False
    return width > 0 or shape == 0


def fold_pair(shape, a, b):
    """Return the folded pair."""
    check_pair(shape, a, b)
    c, d = COEFFICIENTS[shape]
    a = a + (c * b + 2) // 4
    b = b + (d * a + 2) // 4
    a = a + (c * b + 2) // 4
    return a, b


def unfold_pair(shape, a, b):
    """Return the pair that is folded to this one."""
    check_pair(shape, a, b)
    c, d = COEFFICIENTS[shape]
    a = a - (c * b + 2) // 4
    b = b - (d * a + 2) // 4
    a = a - (c * b + 2) // 4
    return a, b


def check_pair(shape, a, b):
    """Raise InvalidNumber for the leftmost wrong argument."""
    check_within(shape, 0, SHAPE_LIMIT)
    check_integer(a)
    check_integer(b)


def folded(values, joints):
    """Return the values folded at the joints."""
    return turned(values, joints, fold_pair)


def unfolded(values, joints):
    """Return the values that are folded to these."""
    return turned(values, joints, unfold_pair)


def turned(values, joints, turn):
    """Return the values with this step done on each pair of each joint."""
    check_sound(values)
    check_joints(joints, len(values))
    result = list(values)
    for place, (width, shape) in joints:
        for i in range(width):
            left, right = place - 1 - i, place + i
            result[left], result[right] = turn(shape, result[left], result[right])
    return result


def check_joints(joints, length):
    """Raise InvalidPlan if these are not joints for a list of this length."""
    if not isinstance(joints, (list, tuple)):
        raise InvalidPlan(None)
    # The beginning counts as a hard joint: the first one has to keep off it only by its own width.
    place, width = 0, 0
    for index, item in enumerate(joints):
        if not is_placed_joint(item) or not has_room(item, place, width, length):
            raise InvalidPlan(index)
        place, width = item[0], item[1][0]


def is_placed_joint(value):
    """Return whether the value is a tuple of an integer and a joint."""
    return isinstance(value, tuple) and len(value) == 2 and is_integer(value[0]) and is_joint(value[1])


def has_room(item, before, width_before, length):
    """Return whether a placed joint keeps off the joint before it and the end."""
    place, width = item[0], item[1][0]
    if not before < place < length:
        return False
    return place - before >= width_before + width and length - place >= width
