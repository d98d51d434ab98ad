"""The index of a stream, and reading a part of a stream by it."""

from framejoins.checks import check_stretch
from framejoins.errors import InvalidStream
from framejoins.streams import block_values, is_frame, is_state, read_frame, unfolded_blocks
from framejoins.tables import START


def index_of(stream):
    """Return a list of what is told of each frame."""
    index = []
    origin = 0
    for at, record in enumerate(stream.records):
        if record[0] == "state":
            origin = at
        else:
            index.append(stream.block(len(index)) + (record[3], record[4], origin))
    return index


def needed_records(index, start, end):
    """Return the indexes of the records that are needed for the samples of a stretch."""
    check_stretch(start, end, sound_length(index))
    return records_up_to(needed_entries(index, start, end))


def read_part(index, fetch, start, end):
    """Return the samples of a stretch, with the records that are fetched."""
    check_stretch(start, end, sound_length(index))
    entries = needed_entries(index, start, end)
    if not entries:
        return []
    samples = samples_of(entries, fetched_numbers(index, fetch, entries))
    first = entries[0][1]
    return samples[start - first:end - first]


def sound_length(index):
    """Return the number of samples."""
    if not index:
        return 0
    return index[-1][1] + index[-1][2]


def reach(entry):
    """Return the stretch of the samples that depend on the values of a frame."""
    record, start, length, left, right = entry[:5]
    return start - left[0], start + length + right[0]


def needed_entries(index, start, end):
    """Return what is told of the frames that are needed for a stretch; they follow each other."""
    if start == end:
        return []
    needed = []
    for entry in index:
        first, last = reach(entry)
        if first < end and start < last:
            needed.append(entry)
    return needed


def records_up_to(entries):
    """Return the indexes of all records from the origins of these frames to their own ones."""
    records = []
    behind = 0
    for entry in entries:
        record, origin = entry[0], entry[7]
        records.extend(list(range(max(origin, behind), record + 1)))
        behind = record + 1
    return records


def entries_by_record(index):
    """Return a dict with what is told of each frame by the index of its record."""
    return {entry[0]: entry for entry in index}


def fetched_numbers(index, fetch, entries):
    """Return a dict of the numbers of these frames, and of those read on the way to them, by their records."""
    by_record = entries_by_record(index)
    numbers = {}
    tables = START
    # A record that does not follow the one before it is a state record, so the tables are always the right ones.
    for at in records_up_to(entries):
        found = read_as_told(by_record.get(at), fetch(at), tables)
        if found is None:
            raise InvalidStream(at)
        numbers[at], tables = found
    return numbers


def read_as_told(entry, value, tables):
    """Return the numbers of a record and the tables behind it, or None if it is not as the index tells.

    Without an entry the record must be a state record; it has no numbers.
    """
    if entry is None:
        return ([], value[1]) if is_state(value) else None
    length, right, levels, step = entry[2], entry[4], entry[5], entry[6]
    if not is_frame(value) or value[1:5] != (length, right, levels, step):
        return None
    return read_frame(value, tables)


def samples_of(entries, numbers):
    """Return the samples of frames that follow each other; the values of those without numbers are taken as 0."""
    blocks = []
    for entry in entries:
        record, length, levels, step = entry[0], entry[2], entry[5], entry[6]
        if record in numbers:
            blocks.append(block_values(numbers[record], levels, step))
        else:
            blocks.append([0] * length)
    return unfolded_blocks(blocks, [entry[4] for entry in entries])
