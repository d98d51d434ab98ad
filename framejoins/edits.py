"""Edits of streams: new streams in which as many of the old frames as possible stay."""

from framejoins.checks import is_within
from framejoins.choices import chosen_joints
from framejoins.clips import Clip
from framejoins.encoder import coded_frame
from framejoins.errors import InvalidPlace, LimitExceeded
from framejoins.folds import HARD
from framejoins.runs import Frame, Run, found_record, found_sample, lead_between
from framejoins.sources import sources_of
from framejoins.streams import Stream
from framejoins.tables import START
from framejoins.units import MADE_LENGTH, Unit, made_units, reasons_of, unit_values, units_of_leaf

RECORDS_LIMIT = 5000
NEW_STEP = 1
NEW_LEVELS = 2


def joined(first, second):
    """Return the stream of two streams one after the other."""
    clip = Clip.part("a", 0, first.length) + Clip.part("b", 0, second.length)
    return Edit({"a": first, "b": second}, clip).stream()


def repeated(stream, n):
    """Return the stream of so many copies."""
    return Edit({"a": stream}, Clip.part("a", 0, stream.length) * n).stream()


def stretch(stream, start, end):
    """Return the stream of a stretch."""
    return Edit({"a": stream}, Clip.part("a", 0, stream.length).cut(start, end)).stream()


def run_of(copies, pieces, sources):
    """Return the run of so many copies of pieces."""
    items, joints = [], []
    for piece in pieces:
        if piece[0] == "repeat":
            added, between = [run_of(piece[1], piece[2], sources)], []
        elif piece[0] == "silence":
            added, between = silent_items(piece[1])
        else:
            added, between = units_of_leaf(piece, sources)
        if items:
            beside_run = isinstance(items[-1], Run) or isinstance(added[0], Run)
            joints.append(HARD if beside_run else None)
        items.extend(added)
        joints.extend(between)
    return Run(copies, nodes_of(items, chosen_joints(items, joints)))


def silent_items(count):
    """Return the units of a silence and the joints between them; the equal ones within a long silence are one run."""
    many = (count + MADE_LENGTH - 1) // MADE_LENGTH
    last = count - (many - 1) * MADE_LENGTH
    if many == 1:
        return made_units([0] * last), []
    items = made_units([0] * (MADE_LENGTH + last))
    if many > 2:
        inner = made_units([0] * MADE_LENGTH)
        items.insert(1, Run(many - 2, nodes_of(inner, [HARD, HARD])))
    return items, [HARD] * (len(items) - 1)


def nodes_of(items, joints):
    """Return the frames of units, with these joints around them, and the runs between them."""
    nodes = []
    for at, item in enumerate(items):
        if isinstance(item, Unit):
            nodes.append(frame_of(items, at, joints[at], joints[at + 1]))
        else:
            nodes.append(item)
    return nodes


def frame_of(items, at, left, right):
    """Return the frame of a unit with these joints."""
    unit = items[at]
    old = unit.old
    values = unit_values(items, at, left, right)
    if old is not None and right == old.right and values == old.worth:
        return Frame(unit.own, old.coded, ("kept", old.name, old.frame), old.first, old.last)
    coded, behind = coded_frame(values, (unit.span, right, NEW_LEVELS, NEW_STEP), START)
    return Frame(unit.own, coded, ("new", reason_of(unit, values, left, right)), START, behind)


def reason_of(unit, values, left, right):
    """Return the first reason for which a unit is coded anew."""
    if unit.old is None:
        return unit.kind
    found = reasons_of(unit.old, values, left, right)
    return found[0]


class Edit:
    """The edit of streams by a clip."""

    def __init__(self, streams, clip):
        self.root = run_of(1, clip.pieces(), sources_of(streams, clip))
        self.lead = lead_between(START, self.root.first)

    @property
    def length(self):
        """The number of samples."""
        return self.root.span

    @property
    def total(self):
        """The number of records."""
        return self.lead + self.root.inner

    def record(self, index):
        """Return the record with this index."""
        frame, tables = self.found(index)
        return ("state", tables) if frame is None else frame.coded

    def row(self, index):
        """Return what is told of the record with this index."""
        frame, tables = self.found(index)
        return ("state",) if frame is None else frame.told

    def found(self, index):
        """Return the frame of a record, or None for a state record, and the tables with which the frame is read."""
        if not is_within(index, 0, self.total - 1):
            raise InvalidPlace(index)
        if index < self.lead:
            return None, self.root.first
        return found_record(self.root, index - self.lead)

    def sample(self, place):
        """Return the sample at this place."""
        if not is_within(place, 0, self.root.span - 1):
            raise InvalidPlace(place)
        return found_sample(self.root, place)

    def kept(self):
        """Return how many old units stay."""
        return self.root.staying

    def renewed(self):
        """Return how many frames are coded anew."""
        return self.root.many - self.root.staying

    def all_records(self):
        """Return the list of all records."""
        self.check_total()
        return [self.record(index) for index in range(self.total)]

    def all_rows(self):
        """Return the list of all rows."""
        self.check_total()
        return [self.row(index) for index in range(self.total)]

    def check_total(self):
        """Raise LimitExceeded for too many records."""
        if self.total > RECORDS_LIMIT:
            raise LimitExceeded(RECORDS_LIMIT)

    def stream(self):
        """Return the stream."""
        return Stream(self.all_records())
