"""Budgets: the delay and the padding of frames that come over a channel."""

from framejoins.checks import check_within, is_within
from framejoins.errors import InvalidPlan
from framejoins.runs import Run
from framejoins.streams import STATE_SIZE, record_size

BUDGET_LIMIT = 10 ** 9


def least_delay(sizes, rate):
    """Return the least delay with which each frame arrives in time."""
    check_sizes(sizes)
    check_within(rate, 0, BUDGET_LIMIT)
    delay, arrived, start = 0, 0, 0
    for size, length in sizes:
        arrived += size
        delay = max(delay, arrived - rate * start)
        start += length
    return delay


def check_sizes(sizes):
    """Raise InvalidPlan for a value that is not a list or tuple of sizes and lengths."""
    if not isinstance(sizes, (list, tuple)):
        raise InvalidPlan(None)
    for index, item in enumerate(sizes):
        if not is_size(item):
            raise InvalidPlan(index)


def is_size(value):
    """Return whether the value is a tuple of a size and a length."""
    if not isinstance(value, tuple) or len(value) != 2:
        return False
    return is_within(value[0], 0, BUDGET_LIMIT) and is_within(value[1], 1, BUDGET_LIMIT)


def frame_sizes(stream):
    """Return the size and the length of each frame, together with the state records directly before it."""
    sizes = []
    size = 0
    for record in stream.records:
        size += record_size(record)
        if record[0] == "frame":
            sizes.append((size, record[1]))
            size = 0
    return sizes


def edit_delay(edit, rate):
    """Return the least delay of an edit."""
    check_within(rate, 0, BUDGET_LIMIT)
    growth, peak = need_of(edit.root, rate)
    return max(0, edit.lead * STATE_SIZE + peak)


def need_of(node, rate):
    """Return by how much a node makes the needed delay grow behind it, and the greatest delay that it needs itself.

    A state record before its first frame does not count.
    """
    if not isinstance(node, Run):
        size = record_size(node.coded)
        return size - rate * node.span, size
    growth, peak = 0, 0
    for lead, inner in zip(node.leads, node.nodes):
        growth += lead * STATE_SIZE
        more, need = need_of(inner, rate)
        peak = max(peak, growth + need)
        growth += more
    # The copies differ by the same amount each, so the first one or the last one needs the most.
    between = (node.copies - 1) * (growth + node.gap * STATE_SIZE)
    return between + growth, max(peak, between + peak)


def padding(sizes, rate, delay, store):
    """Return the units to be added to the frames, or the first and the last frame that show that it is impossible."""
    check_sizes(sizes)
    for value in (rate, delay, store):
        check_within(value, 0, BUDGET_LIMIT)
    units = []
    first, sent, due = 0, 0, delay
    for frame, (size, length) in enumerate(sizes):
        behind = due + rate * length
        # Behind the last frame nothing has to be taken out of the store.
        least = behind - store - sent - size if frame < len(sizes) - 1 else 0
        units.append(max(least, 0))
        sent += size + units[-1]
        if sent > due:
            return first, frame
        if units[-1] > 0:
            first = frame + 1
        due = behind
    return units
