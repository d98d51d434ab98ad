"""The choice of the joints of an edit.

What is told here of items goes for the units and the runs of one clip or of one copy of a repeat, in their order.
A joint beside a run is hard, and no choice, so that runs only separate the units on their sides.
"""

from framejoins.folds import HARD, SHAPE_LIMIT, WIDTH_LIMIT
from framejoins.units import unit_values


def chosen_joints(items, joints):
    """Return the joints at the left end, between the items, where None is to be chosen, and at the right end."""
    options = options_between(items, joints)
    ends = [standing_ends(items, at, options) for at in range(len(items))]
    best = best_numbers(items, options, ends)
    chosen = [HARD]
    for at, item in enumerate(items):
        left, behind = chosen[-1], best[at + 1]
        # The options are in order, so the first one with which as many units stay is taken.
        fitting = [right for right in options[at + 1] if right in behind and has_room(item, left, right)
                   and behind[right] + stays(ends[at], left, right) == best[at][left]]
        chosen.append(fitting[0])
    return chosen


def options_between(items, joints):
    """Return the list of the joints that may stand at each place, in order."""
    options = [[HARD]]
    for at, joint in enumerate(joints):
        if joint is None:
            options.append(joints_up_to(min(WIDTH_LIMIT, items[at].span, items[at + 1].span)))
        else:
            options.append([joint])
    options.append([HARD])
    return options


def joints_up_to(limit):
    """Return all joints up to a width, in order."""
    wide = [(width, shape) for width in range(1, limit + 1) for shape in range(SHAPE_LIMIT + 1)]
    return [HARD] + wide


def standing_ends(items, at, options):
    """Return a dict of the left joints, and the right joint or None, with which the values of an old unit are old."""
    old = items[at].old
    if old is None or old.right not in options[at + 1]:
        return {}, None
    behind = items[at].span - old.right[0]
    if unit_values(items, at, HARD, old.right)[behind:] != old.worth[behind:]:
        return {}, None
    lefts = {}
    for left in options[at]:
        # Joints that have room do not reach each other's values, so each end is looked at by itself.
        reach = max(left[0], old.left[0])
        if unit_values(items, at, left, HARD)[:reach] == old.worth[:reach]:
            lefts[left] = True
    return lefts, old.right


def stays(ends, left, right):
    """Return 1 for a unit that stays with these joints, otherwise 0."""
    return 1 if right == ends[1] and left in ends[0] else 0


def has_room(item, left, right):
    """Return whether the joints at both ends of an item are together at most as wide as it is long."""
    return left[0] + right[0] <= item.span


def best_numbers(items, options, ends):
    """Return a dict for each place: how many units behind a joint there stay at most, where any choice is left."""
    best = [{HARD: 0}]
    for at in reversed(range(len(items))):
        behind = best[-1]
        here = {}
        for left in options[at]:
            numbers = [behind[right] + stays(ends[at], left, right)
                       for right in behind if has_room(items[at], left, right)]
            if numbers:
                here[left] = max(numbers)
        best.append(here)
    return best[::-1]
