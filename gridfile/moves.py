"""What moves with the rows or columns of a sheet: nothing is checked here but that all stays in the grid.

They give None for what vanishes, and raise PastBorder for what is refused, mostly with a thing that they are passed.
"""

from gridfile.errors import PastBorder
from gridfile.nodes import references_of, with_tree
from gridfile.places import MOST_COLUMN, MOST_ROW

AXES = ("rows", "columns")
# Where a place, or a pair of frozen counts, has its number of an axis.
ITEM_OF = {"rows": 0, "columns": 1}


def most_of(axis):
    """The greatest number of a row or column in the grid."""
    return MOST_ROW if axis == "rows" else MOST_COLUMN


def number_behind(number, axis, edit_map, thing):
    """The new number of a row or column."""
    return _in_grid(edit_map.new_of(number), axis, thing)


def place_behind(place, axis, edit_map, thing):
    """The place with its number of the axis moved."""
    number = number_behind(place[ITEM_OF[axis]], axis, edit_map, thing)
    return None if number is None else _with_number(place, axis, number)


def merge_behind(rectangle, axis, edit_map, thing):
    """The merge by its span, which vanishes also if one place is left."""
    first, last = rectangle[:2], rectangle[2:]
    span = _span_behind(first[ITEM_OF[axis]], last[ITEM_OF[axis]], axis, edit_map, thing)
    if span is None:
        return None
    start = _with_number(first, axis, span[0])
    end = _with_number(last, axis, span[1])
    return None if start == end else (*start, *end)


def frozen_behind(frozen, axis, edit_map, thing):
    """The pair of frozen counts, of which that of the axis is a front."""
    return _with_number(frozen, axis, _in_grid(edit_map.front_of(frozen[ITEM_OF[axis]]), axis, thing))


def tree_behind(tree, home, name, axis, edit_map):
    """The tree of the sheet home with its references to the sheet name moved; PastBorder has the path of the first."""
    result = tree
    for path, node in references_of(tree):
        sheet = home if node[1] is None else node[1]
        if sheet == name:
            result = with_tree(result, path, _reference_behind(node, axis, edit_map, path))
    return result


def _reference_behind(node, axis, edit_map, thing):
    if node[0] == "cell":
        number = number_behind(node[2][ITEM_OF[axis]], axis, edit_map, thing)
        return ("lost",) if number is None else (*node[:2], _with_number(node[2], axis, number))
    one, other = node[2:]
    first, last = sorted([one[ITEM_OF[axis]], other[ITEM_OF[axis]]])
    whole = (1, most_of(axis))
    if (first, last) == whole:
        return node
    span = _span_behind(first, last, axis, edit_map, thing)
    if span is None:
        return ("lost",)
    if span == whole:
        raise PastBorder(thing)
    start, end = span if one[ITEM_OF[axis]] == first else (span[1], span[0])
    return (*node[:2], _with_number(one, axis, start), _with_number(other, axis, end))


def _span_behind(first, last, axis, edit_map, thing):
    span = edit_map.span_of(first, last)
    if span is not None:
        _in_grid(span[1], axis, thing)
    return span


def _in_grid(number, axis, thing):
    if number is not None and number > most_of(axis):
        raise PastBorder(thing)
    return number


def _with_number(items, axis, number):
    """A place, part or pair with another number of the axis."""
    at = ITEM_OF[axis]
    return (*items[:at], number, *items[at + 1:])
