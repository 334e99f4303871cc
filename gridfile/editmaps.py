"""Edit maps: what becomes of rows, or columns, when some are inserted and deleted."""

from gridfile.checks import is_integer, is_one_of, is_tuple_of
from gridfile.errors import BadEdit, BadMap, BadNumber
from gridfile.pieces import (ABOVE, BELOW, composed, deleting_pieces, how_many_to, inserting_pieces, marks_in, new_in,
                             old_in, spans_gone, spans_made, turned_back)
from gridfile.places import MOST_ROW


class EditMap:
    """An edit map, made by its class methods; it never changes."""

    def __init__(self, pieces):
        self._pieces = pieces

    @classmethod
    def unchanged(cls):
        """The map that changes nothing."""
        return cls((("kept", 1, None),))

    @classmethod
    def inserting(cls, at, many):
        """The map that inserts so many rows at a row."""
        _check_number(at)
        _check_number(many)
        return cls(inserting_pieces(at, many))

    @classmethod
    def deleting(cls, at, many):
        """The map that deletes so many rows from a row on."""
        _check_number(at)
        _check_number(many)
        return cls(deleting_pieces(at, many))

    @classmethod
    def of(cls, edits):
        """The map of a tuple of ("insert", at, many) and ("delete", at, many), one after the other."""
        if not isinstance(edits, tuple):
            raise BadEdit(edits)
        for edit in edits:
            if not _is_edit(edit):
                raise BadEdit(edit)
        pieces = (("kept", 1, None),)
        for word, at, many in edits:
            following = inserting_pieces(at, many) if word == "insert" else deleting_pieces(at, many)
            pieces = composed(pieces, following)
        return cls(pieces)

    @property
    def pieces(self):
        """The tuple of the pieces."""
        return self._pieces

    def then(self, other):
        """The map that does this one and then the other one."""
        if not isinstance(other, EditMap):
            raise BadMap(other)
        return EditMap(composed(self._pieces, other.pieces))

    def back(self):
        """The map back."""
        return EditMap(turned_back(self._pieces))

    def is_same(self, other):
        """Whether other is a map with the same pieces."""
        return isinstance(other, EditMap) and self._pieces == other.pieces

    def new_of(self, number):
        """The new number of an old row, or None."""
        _check_number(number)
        return new_in(self._pieces, number)

    def old_at(self, number):
        """The old row at a new number, or None."""
        _check_number(number)
        return old_in(self._pieces, number)

    def marks_at(self, number):
        """The marks (above, below) of the row at a new number."""
        _check_number(number)
        return marks_in(self._pieces, number)

    def span_of(self, first, last):
        """The pair of the first and the last of the new rows that belong to a span, or None."""
        _check_number(first)
        if not is_integer(last, first, MOST_ROW):
            raise BadNumber(last)
        start = how_many_to(self._pieces, first - 1, ABOVE) + 1
        end = how_many_to(self._pieces, last, BELOW)
        return (start, end) if start <= end else None

    def front_of(self, count):
        """The number of new rows that belong to a front."""
        if not is_integer(count, 0, MOST_ROW):
            raise BadNumber(count)
        return how_many_to(self._pieces, count, BELOW)

    def gone(self):
        """The ascending tuple of the greatest spans of deleted rows."""
        return spans_gone(self._pieces)

    def made(self):
        """The ascending tuple of the greatest spans of new rows, by their new numbers."""
        return spans_made(self._pieces)


def _check_number(value):
    if not is_integer(value, 1, MOST_ROW):
        raise BadNumber(value)


def _is_edit(value):
    """Whether a value of any kind is an insertion or deletion."""
    if not is_tuple_of(value, 3) or not is_one_of(value[0], ("insert", "delete")):
        return False
    return is_integer(value[1], 1, MOST_ROW) and is_integer(value[2], 1, MOST_ROW)
