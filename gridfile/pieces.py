"""The pieces of edit maps: ("kept", first, many) and ("new", above, below, many); many is None for the last one."""

# Where a piece of new rows has its marks.
ABOVE = 1
BELOW = 2


def inserting_pieces(at, many):
    """The pieces of a map that inserts rows."""
    return (*_kept_before(at), ("new", at - 1, at, many), ("kept", at, None))


def deleting_pieces(at, many):
    """The pieces of a map that deletes rows."""
    return (*_kept_before(at), ("kept", at + many, None))


def composed(first, second):
    """The pieces of the map that does the first and then the second one."""
    found = []
    for piece in second:
        if piece[0] == "kept":
            found.extend(_part_of(first, piece[1], piece[2]))
        else:
            above = 0 if piece[ABOVE] == 0 else marks_in(first, piece[ABOVE])[0]
            found.append(("new", above, marks_in(first, piece[BELOW])[1], piece[-1]))
    return _joined(found)


def turned_back(pieces):
    """The pieces of the map back: what was deleted lies between the kept rows around it."""
    found = []
    number = 1
    last_kept = 0
    old = 1
    for piece in pieces:
        if piece[0] == "kept":
            if piece[1] > old:
                found.append(("new", last_kept, number, piece[1] - old))
            found.append(("kept", number, piece[2]))
            if piece[2] is not None:
                old = piece[1] + piece[2]
                last_kept = number + piece[2] - 1
        if piece[-1] is not None:
            number += piece[-1]
    return tuple(found)


def new_in(pieces, old):
    """The new number of an old row, or None."""
    number = 1
    for piece in pieces:
        if piece[0] == "kept" and old >= piece[1] and (piece[2] is None or old < piece[1] + piece[2]):
            return number + old - piece[1]
        if piece[-1] is not None:
            number += piece[-1]
    return None


def marks_in(pieces, number):
    """The marks (above, below) of the row with this new number."""
    (piece,) = _part_of(pieces, number, 1)
    return (piece[1], piece[1]) if piece[0] == "kept" else (piece[ABOVE], piece[BELOW])


def old_in(pieces, number):
    """The old row at a new number, or None for a new row."""
    (piece,) = _part_of(pieces, number, 1)
    return piece[1] if piece[0] == "kept" else None


def how_many_to(pieces, most, mark):
    """The number of new rows whose above, or below, is at most so great; from row to row marks never fall."""
    total = 0
    for piece in pieces:
        if piece[0] == "new":
            total += piece[-1] if piece[mark] <= most else 0
        elif piece[1] <= most:
            reached = most - piece[1] + 1
            total += reached if piece[2] is None else min(reached, piece[2])
    return total


def spans_gone(pieces):
    """The greatest spans of deleted rows, ascending."""
    found = []
    old = 1
    for piece in pieces:
        if piece[0] == "kept":
            if piece[1] > old:
                found.append((old, piece[1] - 1))
            if piece[2] is not None:
                old = piece[1] + piece[2]
    return tuple(found)


def spans_made(pieces):
    """The greatest spans of new rows, by their new numbers, ascending."""
    found = []
    number = 1
    for piece in pieces:
        if piece[0] == "new":
            # Neighboring pieces of new rows differ in their marks only.
            first = found.pop()[0] if found != [] and found[-1][1] == number - 1 else number
            found.append((first, number + piece[-1] - 1))
        if piece[-1] is not None:
            number += piece[-1]
    return tuple(found)


def _kept_before(at):
    return (("kept", 1, at - 1),) if at > 1 else ()


def _part_of(pieces, first, many):
    """The pieces of so many new rows from this one on, of all for None."""
    found = []
    start = 1
    for piece in pieces:
        # How many rows in front of the part, and how many up to its end, this piece can have.
        skipped = max(0, first - start)
        wanted = None if many is None else first + many - start
        taken = _lesser(piece[-1], wanted)
        if taken is None or taken > skipped:
            found.append(_shortened(piece, skipped, None if taken is None else taken - skipped))
        start += 0 if piece[-1] is None else piece[-1]
    return found


def _lesser(one, other):
    """The lesser one of two numbers of rows, of which None is without an end."""
    if one is None:
        return other
    return one if other is None else min(one, other)


def _shortened(piece, skipped, many):
    """So many rows of a piece, without those that are skipped at its beginning."""
    return ("kept", piece[1] + skipped, many) if piece[0] == "kept" else (*piece[:-1], many)


def _joined(pieces):
    """The pieces, with old rows that follow each other and new rows with equal marks in one."""
    found = []
    for piece in pieces:
        if found != [] and _is_joined(found[-1], piece):
            before = found.pop()
            found.append((*before[:-1], None if piece[-1] is None else before[-1] + piece[-1]))
        else:
            found.append(piece)
    return tuple(found)


def _is_joined(before, piece):
    if before[0] == "kept" and piece[0] == "kept":
        return before[1] + before[2] == piece[1]
    return before[:-1] == piece[:-1]
