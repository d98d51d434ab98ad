"""The units of edits: stretches of samples that become one frame each."""

from framejoins.folds import HARD, fold_pair
from framejoins.pieces import is_plain_part, leaf_length, leaf_samples

MADE_LENGTH = 32


class Unit:
    """A unit of the kind "old", "rest" or "made"; an old one knows its frame."""

    def __init__(self, kind, own, old):
        self.kind = kind
        self.own = own
        self.span = len(own)
        self.old = old


def part_units(piece, source):
    """Return the units of a part without gains, and the joints between them; None is a joint to be chosen."""
    start, end = piece[2:4]
    units, joints = [], []
    while start < end:
        old = source.frame_at(start)
        own = source.decoded[start:min(old.end, end)]
        whole = start == old.start and end >= old.end
        unit = Unit("old", own, old) if whole else Unit("rest", own, None)
        if units:
            room = min(units[-1].span, unit.span)
            joints.append(old.left if old.left[0] <= room else None)
        units.append(unit)
        start += unit.span
    return units, joints


def made_units(samples):
    """Return the units of samples that are no part without gains."""
    return [Unit("made", samples[at:at + MADE_LENGTH], None) for at in range(0, len(samples), MADE_LENGTH)]


def units_of_leaf(piece, sources):
    """Return the units of a piece that is neither a silence nor a repeat, and the joints between them."""
    if is_plain_part(piece):
        return part_units(piece, sources[piece[1]])
    sounds = {name: sources[name].decoded for name in sources}
    units = made_units(leaf_samples(piece, 0, leaf_length(piece), sounds))
    return units, [HARD] * (len(units) - 1)


def unit_values(items, at, left, right):
    """Return the values of a unit with these joints at its ends; beside a hard joint nothing is looked at."""
    values = list(items[at].own)
    for i in range(left[0]):
        values[i] = fold_pair(left[1], items[at - 1].own[-1 - i], values[i])[1]
    for i in range(right[0]):
        values[-1 - i] = fold_pair(right[1], values[-1 - i], items[at + 1].own[i])[0]
    return values


def reasons_of(old, values, left, right):
    """Return the list of the reasons for which a frame with these values and joints is not an old one."""
    found = []
    reach = max(left[0], old.left[0])
    if values[:reach] != old.worth[:reach]:
        found.append("left")
    if right != old.right:
        found.append("joint")
    behind = len(values) - right[0]
    if values[behind:] != old.worth[behind:]:
        found.append("right")
    return found
