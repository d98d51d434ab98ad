"""The pieces of clips: tuples of parts, silences, samples and repeats of other pieces."""


def is_plain_part(piece):
    """Return whether a piece is a part without gains."""
    return piece[0] == "part" and not piece[4]


def leaf_length(piece):
    """Return the number of samples of a piece that is not a repeat."""
    if piece[0] == "part":
        return piece[3] - piece[2]
    return piece[1] if piece[0] == "silence" else len(piece[1])


def piece_length(piece):
    """Return the number of samples of a piece."""
    if piece[0] == "repeat":
        return piece[1] * pieces_length(piece[2])
    return leaf_length(piece)


# Repeats can be a hundred deep; where a function calls itself for them, it does so without another call between.
def pieces_length(pieces):
    """Return the number of samples of pieces."""
    total = 0
    for piece in pieces:
        if piece[0] == "repeat":
            total = total + piece[1] * pieces_length(piece[2])
        else:
            total = total + leaf_length(piece)
    return total


def pieces_count(pieces):
    """Return how many pieces there are, those inside repeats and the repeats themselves counted once each."""
    total = len(pieces)
    for piece in pieces:
        if piece[0] == "repeat":
            total = total + pieces_count(piece[2])
    return total


def leaves(pieces):
    """Return the list of the pieces that are no repeats, where a repeat counts as one copy."""
    found = []
    for piece in pieces:
        if piece[0] == "repeat":
            found.extend(leaves(piece[2]))
        else:
            found.append(piece)
    return found


def all_leaves(pieces):
    """Return the list of the pieces that are no repeats, for each copy of a repeat."""
    found = []
    for piece in pieces:
        if piece[0] == "repeat":
            found.extend(all_leaves(piece[2]) * piece[1])
        else:
            found.append(piece)
    return found


def merged(first, second):
    """Return the one piece that two neighbours are, or None if they stay two."""
    if first[0] == "silence" and second[0] == "silence":
        return ("silence", first[1] + second[1])
    if first[0] == "part" and second[0] == "part":
        if first[1] == second[1] and first[3] == second[2] and first[4] == second[4]:
            return ("part", first[1], first[2], second[3], first[4])
    return None


def put_together(first, second):
    """Return the pieces of two tuples one after the other."""
    seam = merged(first[-1], second[0]) if first and second else None
    if seam is None:
        return first + second
    return first[:-1] + (seam,) + second[1:]


def repeated_pieces(pieces, n):
    """Return the pieces of so many copies."""
    if n == 0 or not pieces:
        return ()
    if n == 1:
        return pieces
    first = pieces[0]
    if len(pieces) == 1 and first[0] == "silence":
        return (("silence", first[1] * n),)
    if len(pieces) == 1 and first[0] == "repeat":
        return (("repeat", first[1] * n, first[2]),)
    return (("repeat", n, pieces),)


def stretched(pieces, start, end):
    """Return the pieces of a stretch."""
    found = ()
    place = 0
    for piece in pieces:
        span = piece_length(piece)
        first, last = max(start - place, 0), min(end - place, span)
        if first < last and piece[0] == "repeat":
            found = put_together(found, stretched_repeat(piece, first, last))
        elif first < last:
            found = put_together(found, (stretched_leaf(piece, first, last),))
        place += span
    return found


def stretched_leaf(piece, start, end):
    """Return the piece of a stretch of a piece that is not a repeat."""
    if piece[0] == "part":
        name, first = piece[1:3]
        return ("part", name, first + start, first + end, piece[4])
    if piece[0] == "silence":
        return ("silence", end - start)
    return ("samples", piece[1][start:end], piece[2])


def stretched_repeat(piece, start, end):
    """Return the pieces of a stretch of a repeat."""
    pieces = piece[2]
    span = pieces_length(pieces)
    copy, first = start // span, start % span
    behind, last = end // span, end % span
    if copy == behind:
        return stretched(pieces, first, last)
    rest = ()
    if first > 0:
        rest = stretched(pieces, first, span)
        copy += 1
    whole = repeated_pieces(pieces, behind - copy)
    beginning = stretched(pieces, 0, last) if last > 0 else ()
    return put_together(put_together(rest, whole), beginning)


def gained_pieces(pieces, gain):
    """Return the pieces with one more gain; zeros stay zeros."""
    found = []
    for piece in pieces:
        if piece[0] == "repeat":
            found.append(("repeat", piece[1], gained_pieces(piece[2], gain)))
        elif piece[0] == "silence":
            found.append(piece)
        else:
            found.append(piece[:-1] + (piece[-1] + (gain,),))
    return tuple(found)


def leaf_at(pieces, place):
    """Return the piece, not a repeat, that holds a place, and the place within it."""
    for piece in pieces:
        span = piece_length(piece)
        if place < span and piece[0] != "repeat":
            return piece, place
        if place < span:
            return leaf_at(piece[2], place % pieces_length(piece[2]))
        place -= span
    return None


def leaf_samples(piece, start, end, sounds):
    """Return the samples of a stretch of a piece that is not a repeat."""
    if piece[0] == "silence":
        return [0] * (end - start)
    if piece[0] == "part":
        samples = sounds[piece[1]][piece[2] + start:piece[2] + end]
    else:
        samples = piece[1][start:end]
    return [gained_value(value, piece[-1]) for value in samples]


def gained_value(value, gains):
    """Return a sample with these gains done on it."""
    for top, bottom in gains:
        value = (2 * value * top + bottom) // (2 * bottom)
    return value
