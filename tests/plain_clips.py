"""Clips, written down a second time in the plainest way: as lists of integers, and as pieces by the words of the rules."""

from framejoins.clips import Clip


def plainly_gained(v, gains):
    for top, bottom in gains:
        v = (2 * v * top + bottom) // (2 * bottom)
    return v


def spelled_out(pieces, sounds):
    """The samples of pieces."""
    samples = []
    for piece in pieces:
        if piece[0] == "part":
            samples += [plainly_gained(v, piece[4]) for v in sounds[piece[1]][piece[2]:piece[3]]]
        elif piece[0] == "silence":
            samples += [0] * piece[1]
        elif piece[0] == "samples":
            samples += [plainly_gained(v, piece[2]) for v in piece[1]]
        else:
            samples += spelled_out(piece[2], sounds) * piece[1]
    return samples


def span_of(pieces):
    total = 0
    for piece in pieces:
        total += {"part": lambda: piece[3] - piece[2], "silence": lambda: piece[1],
                  "samples": lambda: len(piece[1]), "repeat": lambda: piece[1] * span_of(piece[2])}[piece[0]]()
    return total


def many_pieces(pieces):
    return sum(1 + (many_pieces(piece[2]) if piece[0] == "repeat" else 0) for piece in pieces)


def tidied(pieces):
    """Pieces without empty ones, and neighbours that are one put into one, until nothing is left to do."""
    pieces = [piece for piece in pieces if span_of([piece])]
    at = 0
    while at + 1 < len(pieces):
        one, two = pieces[at], pieces[at + 1]
        if one[0] == two[0] == "silence":
            pieces[at:at + 2] = [("silence", one[1] + two[1])]
        elif one[0] == two[0] == "part" and one[1] == two[1] and one[4] == two[4] and one[3] == two[2]:
            pieces[at:at + 2] = [("part", one[1], one[2], two[3], one[4])]
        else:
            at += 1
    return pieces


def plainly_repeated(pieces, n):
    if n == 0 or not pieces:
        return []
    if n == 1:
        return list(pieces)
    if len(pieces) == 1 and pieces[0][0] == "silence":
        return [("silence", n * pieces[0][1])]
    if len(pieces) == 1 and pieces[0][0] == "repeat":
        return [("repeat", n * pieces[0][1], pieces[0][2])]
    return [("repeat", n, tuple(pieces))]


def plainly_cut(pieces, start, end):
    """The pieces of a stretch; each copy of a repeat is looked at by itself."""
    found, place = [], 0
    for piece in pieces:
        span = span_of([piece])
        first, last = max(start, place) - place, min(end, place + span) - place
        place += span
        if first >= last:
            continue
        if piece[0] == "part":
            found.append(("part", piece[1], piece[2] + first, piece[2] + last, piece[4]))
        elif piece[0] == "silence":
            found.append(("silence", last - first))
        elif piece[0] == "samples":
            found.append(("samples", piece[1][first:last], piece[2]))
        else:
            found += cut_copies(piece[2], piece[1], first, last)
    return tidied(found)


def cut_copies(pieces, n, start, end):
    span, whole, before, behind = span_of(pieces), 0, [], []
    for copy in range(start // span, min(n, end // span + 1)):
        first, last = max(start - copy * span, 0), min(end - copy * span, span)
        if (first, last) == (0, span):
            whole += 1
        elif first < last and not whole and not before:
            before = plainly_cut(pieces, first, last)
        elif first < last:
            behind = plainly_cut(pieces, first, last)
    return before + plainly_repeated(list(pieces), whole) + behind


def gained_once(pieces, gain):
    found = []
    for piece in pieces:
        if piece[0] == "repeat":
            found.append(("repeat", piece[1], tuple(gained_once(piece[2], gain))))
        elif piece[0] == "silence":
            found.append(piece)
        else:
            found.append(piece[:-1] + (piece[-1] + (gain,),))
    return found


def any_stretch(source, length):
    """A stretch, mostly a long one."""
    first, last = next(source) % (length + 1), next(source) % (length + 1)
    first, last = (first // 4, length - last // 4) if next(source) % 4 else (min(first, last), max(first, last))
    return first, last


def any_clip(source, sounds, depth, most=4):
    """A clip that is made at random, with its pieces by the rules."""
    if depth == 0 or next(source) % 16 == 0:
        return any_leaf(source, sounds)
    kind = next(source) % 8
    clip, pieces = any_clip(source, sounds, depth - 1, most)
    if kind < 3:
        other, more = any_clip(source, sounds, depth - 1, most)
        return clip + other, tidied(pieces + more)
    if kind < 5:
        n = 1 + next(source) % most if next(source) % 8 else 0
        return clip * n, plainly_repeated(pieces, n)
    length = span_of(pieces)
    start, end = any_stretch(source, length)
    if kind == 5:
        return clip.cut(start, end), plainly_cut(pieces, start, end)
    if kind == 6:
        top, bottom = next(source) % 7 - 3, 1 + next(source) % 4
        return clip.gained(top, bottom), gained_once(pieces, (top, bottom))
    # Two stretches that continue each other.
    first, second = plainly_cut(pieces, start, end), plainly_cut(pieces, end, length)
    return clip.cut(start, end) + clip.cut(end, length), tidied(first + second)


def any_leaf(source, sounds):
    kind = next(source) % 5
    if kind == 0:
        count = next(source) % 5
        return Clip.silence(count), tidied([("silence", count)])
    if kind == 1:
        sound = [next(source) % 11 - 5 for place in range(next(source) % 5)]
        return Clip.samples(sound), tidied([("samples", tuple(sound), ())])
    name = sorted(sounds)[next(source) % len(sounds)]
    start, end = any_stretch(source, len(sounds[name]))
    return Clip.part(name, start, end), tidied([("part", name, start, end, ())])
