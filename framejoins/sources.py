"""The streams that an edit takes its parts from."""

from framejoins.errors import InvalidPlace, LimitExceeded, UnknownName
from framejoins.pieces import leaf_length, leaves
from framejoins.streams import Stream

SAMPLES_LIMIT = 20000


def last_at_most(ascending, place):
    """Return the index of the last item that is at most the place; the first one is."""
    low, high = 0, len(ascending)
    while high - low > 1:
        middle = (low + high) // 2
        if ascending[middle] <= place:
            low = middle
        else:
            high = middle
    return low


class OldFrame:
    """A frame of a stream, with what an edit compares."""

    def __init__(self, source, frame):
        stream = source.origin
        block = stream.block(frame)
        self.name = source.name
        self.frame = frame
        self.start = block[1]
        self.end = block[1] + block[2]
        self.left = block[3]
        self.right = block[4]
        self.coded = source.all_coded[block[0]]
        self.worth = stream.contents(frame)
        self.first = stream.tables_before(frame)
        self.last = stream.tables_after(frame)


class Source:
    """A stream with its name, its samples and what is found in it often."""

    def __init__(self, name, stream):
        self.name = name
        self.origin = stream
        self.all_coded = stream.records
        self.decoded = stream.sound()
        self.starts = [stream.block(frame)[1] for frame in range(stream.frames)]

    def frame_at(self, place):
        """Return the frame whose block holds a place."""
        return OldFrame(self, last_at_most(self.starts, place))


def sources_of(streams, clip):
    """Return a dict of the sources that a clip needs; raise the errors of edits."""
    for name in clip.names():
        if not isinstance(streams.get(name), Stream):
            raise UnknownName(name)
    pieces = leaves(clip.pieces())
    for piece in pieces:
        if piece[0] == "part" and piece[3] > streams[piece[1]].length:
            raise InvalidPlace(piece[3])
    if sum([leaf_length(piece) for piece in pieces if piece[0] != "silence"]) > SAMPLES_LIMIT:
        raise LimitExceeded(SAMPLES_LIMIT)
    return {name: Source(name, streams[name]) for name in clip.names()}
