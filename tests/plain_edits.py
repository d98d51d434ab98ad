"""Edits, written down a second time in the plainest way: every copy spelled out, and all choices of joints tried."""

import itertools

from framejoins.clips import Clip
from framejoins.encoder import encode
from framejoins.streams import Stream
from helpers import sequence
from plain import HARD, START, any_built, plain_record, plainly_folded, plainly_split
from plain_clips import any_clip, plainly_gained

ALL_JOINTS = [HARD] + [(width, shape) for width in range(1, 9) for shape in range(4)]
REASONS = ("made", "rest", "left", "joint", "right")


class PlainUnit:
    """A unit with its samples; an old one has its name and its frame, and what is known of that."""

    def __init__(self, kind, samples, name=None, stream=None, frame=None):
        self.kind, self.samples, self.name, self.frame = kind, samples, name, frame
        if kind == "old":
            record, start, length, self.left, self.right = stream.block(frame)
            self.record, self.values = stream.records[record], stream.contents(frame)
            self.before, self.after = stream.tables_before(frame), stream.tables_after(frame)


def units_of_part(name, stream, start, end):
    units, joints, sound = [], [], stream.sound()
    for frame in range(stream.frames):
        record, first, length, left, right = stream.block(frame)
        low, high = max(start, first), min(end, first + length)
        if low < high:
            whole = (low, high) == (first, first + length)
            units.append(PlainUnit("old" if whole else "rest", sound[low:high], name, stream, frame))
            joints.append(left)
    for at in range(1, len(units)):
        for unit in units[at - 1:at + 1]:
            if unit.kind == "rest" and joints[at] and joints[at][0] > len(unit.samples):
                joints[at] = None
    return units, joints[1:]


def plain_units(pieces, streams):
    """The units of pieces with every copy spelled out, and the joints between them; None is a joint to be chosen."""
    units, joints, latest = [], [], None
    for piece in pieces:
        if piece[0] == "repeat":
            own, between = plain_units(piece[2], streams)
            own, between = own * piece[1], ((between + [HARD]) * piece[1])[:-1]
        elif piece[0] == "part" and not piece[4]:
            own, between = units_of_part(piece[1], streams[piece[1]], piece[2], piece[3])
        else:
            samples = made_samples(piece, streams)
            own = [PlainUnit("made", samples[at:at + 32]) for at in range(0, len(samples), 32)]
            between = [HARD] * (len(own) - 1)
        if units:
            joints.append(HARD if "repeat" in (latest, piece[0]) else None)
        units, joints, latest = units + own, joints + between, piece[0]
    return units, joints


def made_samples(piece, streams):
    if piece[0] == "silence":
        return [0] * piece[1]
    if piece[0] == "samples":
        return [plainly_gained(v, piece[2]) for v in piece[1]]
    return [plainly_gained(v, piece[4]) for v in streams[piece[1]].sound()[piece[2]:piece[3]]]


def unit_contents(units, joints):
    """The values of all units with the joints between them."""
    ends = list(itertools.accumulate(len(unit.samples) for unit in units))
    samples = [v for unit in units for v in unit.samples]
    values = plainly_folded(samples, list(zip(ends, joints)))
    return [values[end - len(unit.samples):end] for unit, end in zip(units, ends)]


def fits(units, joints):
    around = [HARD] + joints + [HARD]
    return all(around[at][0] + around[at + 1][0] <= len(unit.samples) for at, unit in enumerate(units))


def is_staying(unit, right, values):
    return unit.kind == "old" and right == unit.right and values == unit.values


def many_staying(units, joints):
    contents = unit_contents(units, joints)
    return sum(is_staying(unit, right, values)
               for unit, right, values in zip(units, joints + [HARD], contents))


def chains(joints):
    """The stretches of joints next to each other that are all to be chosen."""
    found = []
    for at, joint in enumerate(joints):
        if joint is None:
            if at and joints[at - 1] is None:
                found[-1].append(at)
            else:
                found.append([at])
    return found


def possible_joints(units, at):
    room = min(len(units[at].samples), len(units[at + 1].samples))
    return [joint for joint in ALL_JOINTS if joint[0] <= room]


def many_choices(units, joints):
    """How many choices are tried at most, where each stretch of chosen joints is looked at by itself."""
    total = 0
    for chain in chains(joints):
        product = 1
        for at in chain:
            product *= len(possible_joints(units, at))
        total += product
    return total


def best_joints(units, joints):
    """The joints with which the most units stay, the first such ones; joints that are fixed part the choices."""
    best = [joint or HARD for joint in joints]
    for chain in chains(joints):
        # Only the units beside the chosen joints depend on them.
        first, last = chain[0], chain[-1] + 1
        low, high = max(first - 1, 0), min(last + 2, len(units))
        most = -1
        for choice in itertools.product(*[possible_joints(units, at) for at in chain]):
            tried = list(joints[low:high - 1])
            tried[first - low:last - low] = choice
            tried = [joint or HARD for joint in tried]
            if fits(units[first:last + 1], tried[first - low:last - low]) and around(units, joints, tried, low, chain):
                many = many_staying(units[low:high], tried)
                if many > most:
                    most, best[first:last] = many, choice
    return best


def around(units, joints, tried, low, chain):
    """The units at both ends of a stretch of chosen joints have room for the fixed joints at their other ends, too."""
    first, last = chain[0], chain[-1] + 1
    left = joints[first - 1] if first > 0 else HARD
    right = joints[last] if last < len(joints) else HARD
    return (left[0] + tried[first - low][0] <= len(units[first].samples)
            and tried[last - 1 - low][0] + right[0] <= len(units[last].samples))


class PlainEdit:
    """An edit with all that is told of it."""

    def __init__(self, streams, pieces):
        self.units, self.joints = plain_units(pieces, streams)
        self.choices = many_choices(self.units, self.joints)

    def finish(self):
        """Choose the joints, and make the records and the rows."""
        self.chosen = best_joints(self.units, self.joints)
        self.records, self.rows, self.kept, self.renewed = [], [], 0, 0
        tables = START
        contents = unit_contents(self.units, self.chosen)
        for unit, left, right, values in zip(self.units, [HARD] + self.chosen, self.chosen + [HARD], contents):
            if is_staying(unit, right, values):
                self.kept += 1
                record, needed, behind, row = unit.record, unit.before, unit.after, ("kept", unit.name, unit.frame)
            else:
                self.renewed += 1
                record, behind = plain_record((len(values), right, 2, 1), plainly_split(values, 2), START)
                needed, row = START, ("new", first_reason(unit, left, right, values))
            if needed != tables:
                self.records.append(("state", needed))
                self.rows.append(("state",))
            self.records.append(record)
            self.rows.append(row)
            tables = behind
        self.samples = [v for unit in self.units for v in unit.samples]
        return self


def first_reason(unit, left, right, values):
    if unit.kind != "old":
        return unit.kind
    wide = max(left[0], unit.left[0])
    if values[:wide] != unit.values[:wide]:
        return "left"
    return "joint" if right != unit.right else "right"


def any_small_stream(source, sound):
    """A stream of a sound with short blocks, at random."""
    lengths, plan, left = [], [], 0
    while sum(lengths) < len(sound):
        lengths.append(min(len(sound) - sum(lengths), 1 + next(source) % 5))
    for length, behind in itertools.zip_longest(lengths, lengths[1:], fillvalue=0):
        width = next(source) % (min(length - left, behind, 8) + 1)
        plan.append((length, (width, next(source) % 4 if width else 0), next(source) % 3, 1))
        left = width
    return encode(sound, plan, states=next(source) % 3)


def any_streams(source):
    """One to three streams of sounds that are much alike, or of any."""
    names = "abc"[:1 + next(source) % 3]
    if next(source) % 3 == 0:
        return {name: Stream(any_built(next(source), 5, 6, 1).records) for name in names}
    size, period = 1 + next(source) % 4, 1 + next(source) % 4
    base = [next(source) % size for place in range(period)]
    sound = (base * 20)[:3 + next(source) % 16]
    return {name: any_small_stream(source, [v + (next(source) % 9 == 0) for v in sound]) for name in names}


def any_edit(seed):
    """Streams and a clip of them at random, with the clip's pieces."""
    source = sequence(seed)
    streams = any_streams(source)
    if next(source) % 2:
        clip, pieces = any_clip(source, {name: streams[name].sound() for name in streams}, 3, 3)
        return streams, clip, pieces
    # Parts that end where blocks end, so that old frames stand beside joints to be chosen.
    clip = Clip.silence(0)
    for part in range(2 + next(source) % 3):
        name = sorted(streams)[next(source) % len(streams)]
        ends = [0] + [sum(streams[name].block(frame)[1:3]) for frame in range(streams[name].frames)]
        start, end = sorted([ends[next(source) % len(ends)], ends[next(source) % len(ends)]])
        clip = clip + Clip.part(name, start, end)
        if next(source) % 5 == 0:
            clip = clip + Clip.samples([next(source) % 3 for place in range(1 + next(source) % 3)])
        if next(source) % 9 == 0:
            clip = clip * (1 + next(source) % 3)
    return streams, clip, clip.pieces()


def plain_edits(seeds, most=3000):
    """Edits at random, for each of which not too many choices are to be tried."""
    for seed in seeds:
        streams, clip, pieces = any_edit(seed)
        plain = PlainEdit(streams, pieces)
        if plain.choices <= most:
            yield streams, clip, plain.finish()
