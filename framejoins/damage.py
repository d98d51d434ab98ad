"""What lost records change, and reading without them."""

from framejoins.checks import is_integer
from framejoins.errors import InvalidPlace, InvalidStream
from framejoins.seeking import entries_by_record, fetched_numbers, reach, read_as_told, samples_of
from framejoins.tables import START


def unread_frames(index, lost):
    """Return the frames that cannot be read."""
    check_lost(lost)
    ascending = sorted(lost)
    unread = []
    passed = 0
    latest = -1
    for frame, entry in enumerate(index):
        record, origin = entry[0], entry[7]
        while passed < len(ascending) and ascending[passed] <= record:
            latest = ascending[passed]
            passed += 1
        # Some record from the origin on is lost exactly if the last lost one is.
        if latest >= origin:
            unread.append(frame)
    return unread


def check_lost(lost):
    """Raise InvalidPlace for a value that is not a list or tuple of indexes of records."""
    if not isinstance(lost, (list, tuple)):
        raise InvalidPlace(None)
    for record in lost:
        if not is_integer(record) or record < 0:
            raise InvalidPlace(record)


def touched(index, lost):
    """Return the stretches of the samples that may differ from those of the undamaged stream."""
    stretches = []
    for frame in unread_frames(index, lost):
        first, last = reach(index[frame])
        if stretches and first <= stretches[-1][1]:
            stretches[-1] = (stretches[-1][0], last)
        else:
            stretches.append((first, last))
    return stretches


def concealed(index, fetch, lost):
    """Return all samples, with the records that are fetched and are not lost."""
    unread = unread_frames(index, lost)
    missing = {frame: True for frame in unread}
    entries = [entry for frame, entry in enumerate(index) if frame not in missing]
    return samples_of(index, fetched_numbers(index, fetch, entries))


def salvaged(index, records):
    """Return all samples, with those of these records that are good, and the indexes of the others."""
    if not isinstance(records, (list, tuple)) or (index and len(records) <= index[-1][0]):
        raise InvalidStream(None)
    by_record = entries_by_record(index)
    numbers = {}
    lost = []
    tables = START
    for at, value in enumerate(records):
        entry = by_record.get(at)
        # Without tables nothing is known of a frame; a state record gives them back.
        if tables is not None or entry is None:
            found = read_as_told(entry, value, tables)
            if found is None:
                lost.append(at)
                tables = None
            else:
                numbers[at], tables = found
    return samples_of(index, numbers), lost
