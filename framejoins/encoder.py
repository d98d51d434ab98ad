"""Coding sounds by plans."""

from framejoins.checks import BLOCK_LIMIT, check_sound, check_within
from framejoins.errors import InvalidJoint, InvalidPlan
from framejoins.folds import HARD, folded, is_joint
from framejoins.levels import LEVEL_LIMIT, STEP_LIMIT, coarse_count, quantized, split_levels
from framejoins.streams import Stream, is_layout, placed_joints
from framejoins.tables import START, mark_of, write_numbers

STATES_LIMIT = 1000
LENGTH_LIMIT = 20000


def encode(sound, plan, *, states=0):
    """Return a stream of a sound with the frames of a plan."""
    check_sound(sound)
    check_plan(plan, len(sound))
    check_within(states, 0, STATES_LIMIT)
    return Stream(coded_records(sound, plan, states))


def check_plan(plan, length):
    """Raise InvalidPlan for a value that is not a plan for a sound of this length."""
    if not isinstance(plan, (list, tuple)):
        raise InvalidPlan(None)
    left = HARD
    total = 0
    for index, item in enumerate(plan):
        if not is_layout(item) or left[0] + item[1][0] > item[0]:
            raise InvalidPlan(index)
        if index == len(plan) - 1 and item[1] != HARD:
            raise InvalidPlan(index)
        left = item[1]
        total += item[0]
    if total != length:
        raise InvalidPlan(None)


def coded_records(sound, plan, states):
    """Return the records of a sound, with a state record before each frame whose number states divides."""
    lengths = [item[0] for item in plan]
    values = folded(sound, placed_joints(lengths, [item[1] for item in plan]))
    records = []
    tables, start = START, 0
    for frame, layout in enumerate(plan):
        if states > 0 and frame > 0 and frame % states == 0:
            records.append(("state", tables))
        end = start + layout[0]
        record, tables = coded_frame(values[start:end], layout, tables)
        records.append(record)
        start = end
    return records


def coded_frame(values, layout, tables):
    """Return the record of a block with these values, and the tables behind it."""
    length, joint, levels, step = layout
    numbers = [quantized(value, step) for value in split_levels(values, levels)]
    bits, behind = write_numbers(numbers, coarse_count(length, levels), tables)
    return ("frame", length, joint, levels, step, mark_of(numbers), bits), behind


def even_plan(length, block, joint, levels, step):
    """Return a plan with frames of one length, and one joint between them wherever it fits."""
    check_within(length, 0, LENGTH_LIMIT)
    check_within(block, 1, BLOCK_LIMIT)
    if not is_joint(joint):
        raise InvalidJoint(joint)
    check_within(levels, 0, LEVEL_LIMIT)
    check_within(step, 1, STEP_LIMIT)
    plan = []
    left = HARD
    for start in range(0, length, block):
        here = min(block, length - start)
        behind = min(block, length - start - here)
        right = joint if joint[0] <= behind and left[0] + joint[0] <= here else HARD
        plan.append((here, right, levels, step))
        left = right
    return plan


def smallest(sound, plans):
    """Return the index and the stream of the plan that gives the least size."""
    check_sound(sound)
    check_plans(plans, len(sound))
    best, stream = 0, encode(sound, plans[0])
    for index in range(1, len(plans)):
        other = encode(sound, plans[index])
        if other.size() < stream.size():
            best, stream = index, other
    return best, stream


def check_plans(plans, length):
    """Raise InvalidPlan for a value that is not a list or tuple of at least one plan."""
    if not isinstance(plans, (list, tuple)) or not plans:
        raise InvalidPlan(None)
    for index, plan in enumerate(plans):
        try:
            check_plan(plan, length)
        except InvalidPlan:
            raise InvalidPlan(index)
