"""Checking what is told of an edit."""

from framejoins.checks import is_integer
from framejoins.errors import InvalidStream, LimitExceeded
from framejoins.pieces import all_leaves, is_plain_part, leaf_length, leaf_samples
from framejoins.sources import SAMPLES_LIMIT, last_at_most, sources_of
from framejoins.streams import Stream
from framejoins.units import reasons_of


def check_edit(streams, clip, records, rows):
    """Return whether the records are those of a stream of the edit, and the rows are true."""
    sources = sources_of(streams, clip)
    if clip.length > SAMPLES_LIMIT:
        raise LimitExceeded(SAMPLES_LIMIT)
    try:
        stream = Stream(records)
    except InvalidStream:
        return False
    if not isinstance(rows, list) or len(rows) != len(stream):
        return False
    pieces = all_leaves(clip.pieces())
    if stream.sound() != samples_of_pieces(pieces, sources):
        return False
    return are_true_rows(rows, stream, pieces, sources)


def samples_of_pieces(pieces, sources):
    """Return the samples of pieces that are no repeats."""
    sounds = {name: sources[name].decoded for name in sources}
    samples = []
    for piece in pieces:
        samples.extend(leaf_samples(piece, 0, leaf_length(piece), sounds))
    return samples


def are_true_rows(rows, stream, pieces, sources):
    """Return whether there is a true row for each record of a stream."""
    starts = [0]
    for piece in pieces:
        starts.append(starts[-1] + leaf_length(piece))
    frame = 0
    for record, row in zip(stream.records, rows):
        if record[0] == "state":
            if row != ("state",):
                return False
        else:
            start, length, left, right = stream.block(frame)[1:]
            under = pieces_under(pieces, starts, start, start + length)
            old = old_frame_under(under, start, start + length, sources)
            values = stream.contents(frame)
            if not is_true_kept(row, record, values, old):
                if not is_true_new(row, true_reasons(under, old, values, left, right)):
                    return False
            frame += 1
    return True


def pieces_under(pieces, starts, start, end):
    """Return the pieces that hold samples of a stretch, each with its place."""
    under = []
    at = last_at_most(starts, start)
    while starts[at] < end:
        under.append((starts[at], pieces[at]))
        at += 1
    return under


def old_frame_under(under, start, end, sources):
    """Return the old frame whose samples within one part without gains are exactly those of a stretch, or None."""
    place, piece = under[0]
    if len(under) > 1 or not is_plain_part(piece):
        return None
    shift = piece[2] - place
    old = sources[piece[1]].frame_at(start + shift)
    return old if old.start == start + shift and old.end == end + shift else None


def is_true_kept(row, record, values, old):
    """Return whether a row tells truly that a frame is an old one."""
    if old is None or not isinstance(row, tuple) or len(row) != 3 or not is_integer(row[2]):
        return False
    return row == ("kept", old.name, old.frame) and record == old.coded and values == old.worth


def is_true_new(row, reasons):
    """Return whether a row tells truly for which reason a frame is coded anew."""
    return isinstance(row, tuple) and len(row) == 2 and row[0] == "new" and row[1] in reasons


def true_reasons(under, old, values, left, right):
    """Return the list of all true reasons to code a frame anew."""
    if old is not None:
        return reasons_of(old, values, left, right)
    parts = [piece for place, piece in under if is_plain_part(piece)]
    return ["rest"] if parts else ["made"]
