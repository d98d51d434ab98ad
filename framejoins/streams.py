"""Records, and streams of them."""

from framejoins.checks import BLOCK_LIMIT, is_within
from framejoins.errors import InvalidPlace, InvalidStream
from framejoins.folds import HARD, is_joint, unfolded
from framejoins.levels import LEVEL_LIMIT, STEP_LIMIT, coarse_count, join_levels
from framejoins.tables import MARK_MODULUS, START, is_tables, mark_of, read_numbers

STATE_SIZE = 80
FRAME_SIZE = 40
FRAME_ITEMS = 7


def is_record(value):
    """Return whether the value is a record."""
    return is_state(value) or is_frame(value)


def is_state(value):
    """Return whether the value is a state record."""
    return isinstance(value, tuple) and len(value) == 2 and value[0] == "state" and is_tables(value[1])


def is_frame(value):
    """Return whether the value is a frame record."""
    if not isinstance(value, tuple) or len(value) != FRAME_ITEMS or value[0] != "frame":
        return False
    mark, bits = value[5:]
    return is_layout(value[1:5]) and is_within(mark, 0, MARK_MODULUS - 1) and is_bits(bits)


def is_layout(value):
    """Return whether the value is a tuple of a length, a joint, levels and a step."""
    if not isinstance(value, tuple) or len(value) != 4:
        return False
    length, joint, levels, step = value
    if not is_within(length, 1, BLOCK_LIMIT) or not is_joint(joint):
        return False
    return is_within(levels, 0, LEVEL_LIMIT) and is_within(step, 1, STEP_LIMIT)


def is_bits(value):
    """Return whether the value is a string of zeros and ones, perhaps empty."""
    return isinstance(value, str) and value.strip("01") == ""


def record_size(record):
    """Return the size of a record."""
    if record[0] == "state":
        return STATE_SIZE
    return FRAME_SIZE + len(record[6])


def read_frame(record, tables):
    """Return the numbers of a frame record and the tables behind it, or None if its bits or its mark are wrong."""
    length, joint, levels, step, mark, bits = record[1:]
    found = read_numbers(bits, length, coarse_count(length, levels), tables)
    if found is None or mark_of(found[0]) != mark:
        return None
    return found


def block_values(numbers, levels, step):
    """Return the values of a block with these numbers."""
    return join_levels([number * step for number in numbers], levels)


def placed_joints(lengths, joints):
    """Return the joints between blocks of these lengths, each with its place; the joint behind the last is left out."""
    placed = []
    place = 0
    for length, joint in zip(lengths, joints):
        place += length
        placed.append((place, joint))
    return placed[:-1]


def unfolded_blocks(blocks, joints):
    """Return the samples of blocks that follow each other, with the joints at their right ends."""
    values = [value for block in blocks for value in block]
    return unfolded(values, placed_joints([len(block) for block in blocks], joints))


def check_records(records):
    """Raise InvalidStream for a value that is not a list or tuple of records."""
    if not isinstance(records, (list, tuple)):
        raise InvalidStream(None)
    for index, record in enumerate(records):
        if not is_record(record):
            raise InvalidStream(index)


def read_frames(records):
    """Return a tuple of the block, the numbers and the tables before and behind for each frame."""
    frames = []
    tables, start, left = START, 0, HARD
    for index, record in enumerate(records):
        if record[0] == "state":
            tables = record[1]
        else:
            length, right = record[1:3]
            found = read_frame(record, tables)
            if left[0] + right[0] > length or found is None:
                raise InvalidStream(index)
            numbers, behind = found
            frames.append(((index, start, length, left, right), numbers, tables, behind))
            tables, start, left = behind, start + length, right
    if left != HARD:
        raise InvalidStream(frames[-1][0][0])
    return frames


class Stream:
    """A sound that is coded as a list of records."""

    def __init__(self, records):
        check_records(records)
        self.held = list(records)
        self.read = read_frames(self.held)

    def __eq__(self, other):
        return isinstance(other, Stream) and self.held == other.held

    def __len__(self):
        return len(self.held)

    def __repr__(self):
        return f"Stream({self.held!r})"

    @property
    def records(self):
        """The list of the records."""
        return list(self.held)

    @property
    def length(self):
        """The number of samples."""
        if not self.read:
            return 0
        block = self.read[-1][0]
        return block[1] + block[2]

    @property
    def frames(self):
        """The number of frames."""
        return len(self.read)

    def sound(self):
        """Return the samples."""
        blocks = [self.contents(frame) for frame in range(len(self.read))]
        return unfolded_blocks(blocks, [block[4] for block, numbers, before, behind in self.read])

    def block(self, frame):
        """Return the record, the start, the length and both joints of the block of a frame."""
        return self.part_of(frame, 0)

    def numbers(self, frame):
        """Return the numbers of a frame."""
        return list(self.part_of(frame, 1))

    def contents(self, frame):
        """Return the values of the block of a frame."""
        numbers = self.part_of(frame, 1)
        levels, step = self.held[self.read[frame][0][0]][3:5]
        return block_values(numbers, levels, step)

    def tables_before(self, frame):
        """Return the tables with which a frame is read."""
        return self.part_of(frame, 2)

    def tables_after(self, frame):
        """Return the tables behind a frame."""
        return self.part_of(frame, 3)

    def part_of(self, frame, part):
        """Return one of the four things that are known of a frame."""
        if not is_within(frame, 0, len(self.read) - 1):
            raise InvalidPlace(frame)
        return self.read[frame][part]

    def size(self):
        """Return the sum of the sizes of the records."""
        return sum([record_size(record) for record in self.held])
