"""Levels of sums and differences, and steps."""

from framejoins.checks import BLOCK_LIMIT, check_block, check_integer, check_within

LEVEL_LIMIT = 5
STEP_LIMIT = 64


def split_levels(values, levels):
    """Return the numbers of a list for this many levels."""
    check_block(values, 1)
    check_within(levels, 0, LEVEL_LIMIT)
    sums = list(values)
    rest = []
    for level in range(levels):
        sums, differences = split_once(sums)
        rest = differences + rest
    return sums + rest


def split_once(values):
    """Return the sums and the differences of one level."""
    sums = []
    differences = []
    for at in range(0, len(values) - 1, 2):
        a, b = values[at], values[at + 1]
        sums.append((a + b) // 2)
        differences.append(a - b)
    if len(values) % 2 == 1:
        sums.append(values[-1])
    return sums, differences


def join_levels(numbers, levels):
    """Return the list that has these numbers for this many levels."""
    check_block(numbers, 1)
    check_within(levels, 0, LEVEL_LIMIT)
    values = numbers[:coarse_count(len(numbers), levels)]
    for level in reversed(range(levels)):
        many = coarse_count(len(numbers), level)
        values = join_once(values, numbers[len(values):many])
    return values


def join_once(sums, differences):
    """Return the values with the sums and differences of one level."""
    values = []
    for at, difference in enumerate(differences):
        # a + b is 2 * b + (a - b), so the sum is b + (a - b) // 2 without a loss.
        b = sums[at] - difference // 2
        values.append(b + difference)
        values.append(b)
    return values + sums[len(differences):]


def coarse_count(length, levels):
    """Return how many numbers of a list of this length are coarse."""
    check_within(length, 1, BLOCK_LIMIT)
    check_within(levels, 0, LEVEL_LIMIT)
    many = length
    for level in range(levels):
        many = (many + 1) // 2
    return many


def quantized(value, step):
    """Return the number that a step makes of a value."""
    check_integer(value)
    check_within(step, 1, STEP_LIMIT)
    return (2 * value + step) // (2 * step)
