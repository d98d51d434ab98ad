"""Clips: edited sounds that are described by pieces of other sounds."""

from framejoins.checks import check_name, check_sound, check_stretch, check_within, is_integer, is_within
from framejoins.errors import InvalidPlace, LimitExceeded, UnknownName
from framejoins.pieces import (gained_pieces, leaf_at, leaf_samples, leaves, pieces_count, pieces_length, put_together,
                               repeated_pieces, stretched)

LENGTH_LIMIT = 10 ** 40
PIECES_LIMIT = 200
NUMBER_LIMIT = 10 ** 30
TOP_LIMIT = 1000
BOTTOM_LIMIT = 1000


class Clip:
    """An edited sound."""

    def __init__(self, pieces):
        # The pieces keep the rules of clips already; only the limits are left to check.
        self.span = pieces_length(pieces)
        self.held = pieces
        if self.span > LENGTH_LIMIT:
            raise LimitExceeded(LENGTH_LIMIT)
        if pieces_count(pieces) > PIECES_LIMIT:
            raise LimitExceeded(PIECES_LIMIT)

    @staticmethod
    def part(name, start, end):
        """Return a stretch of the sound of a stream."""
        check_name(name)
        for place in (start, end):
            if not is_integer(place) or place < 0:
                raise InvalidPlace(place)
        if end < start:
            raise InvalidPlace(end)
        return Clip((("part", name, start, end, ()),) if start < end else ())

    @staticmethod
    def silence(count):
        """Return this many zeros."""
        check_within(count, 0, NUMBER_LIMIT)
        return Clip((("silence", count),) if count > 0 else ())

    @staticmethod
    def samples(sound):
        """Return a clip of these samples."""
        check_sound(sound)
        return Clip((("samples", tuple(sound), ()),) if sound else ())

    def __add__(self, other):
        if not isinstance(other, Clip):
            return NotImplemented
        return Clip(put_together(self.held, other.held))

    def __mul__(self, other):
        check_within(other, 0, NUMBER_LIMIT)
        return Clip(repeated_pieces(self.held, other))

    def __eq__(self, other):
        return isinstance(other, Clip) and self.held == other.held

    @property
    def length(self):
        """The number of samples."""
        return self.span

    def names(self):
        """Return the ascending list of the names that occur."""
        return sorted(set([piece[1] for piece in leaves(self.held) if piece[0] == "part"]))

    def pieces(self):
        """Return the list of the pieces."""
        return list(self.held)

    def cut(self, start, end):
        """Return a stretch of the clip."""
        check_stretch(start, end, self.span)
        return Clip(stretched(self.held, start, end))

    def gained(self, top, bottom):
        """Return the clip with its samples multiplied by a fraction."""
        check_within(top, -TOP_LIMIT, TOP_LIMIT)
        check_within(bottom, 1, BOTTOM_LIMIT)
        return Clip(gained_pieces(self.held, (top, bottom)))

    def sample(self, place, sounds):
        """Return the sample at a place, with a sound for each name."""
        if not is_within(place, 0, self.span - 1):
            raise InvalidPlace(place)
        for name in self.names():
            if name not in sounds:
                raise UnknownName(name)
        piece, at = leaf_at(self.held, place)
        return leaf_samples(piece, at, at + 1, sounds)[0]
