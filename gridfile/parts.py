"""The parts of sheets: cells, merges, settings, links. What is wrong is told as (index,), (None,) or None."""

from gridfile.checks import is_integer, is_row, is_tuple_of
from gridfile.places import MOST_COLUMN, MOST_ROW, is_place, is_rectangle
from gridfile.trees import is_tree
from gridfile.values import PLAIN, is_short_string, is_style, is_value

MOST_LINKS = 2000
MOST_MERGES = 300
MOST_SIZE = 1000


def merge_with(merges, place):
    """The merge that has the place, or None."""
    for merge in merges:
        if merge[0] <= place[0] <= merge[2] and merge[1] <= place[1] <= merge[3]:
            return merge
    return None


def is_covered_by(merges, place):
    """Whether the place lies in a merge, and is not its first one."""
    merge = merge_with(merges, place)
    return merge is not None and merge[:2] != place


def item_at(items, at, default):
    """What stands behind a number or place in the item that begins with it, or else the default."""
    index = _index_of(items, at)
    return items[index][1:] if index < len(items) and items[index][0] == at else default


def with_item(items, at, item):
    """The tuple of the items with another one that begins with this number or place, or without one for None."""
    index = _index_of(items, at)
    following = index + 1 if index < len(items) and items[index][0] == at else index
    return (*items[:index], *([] if item is None else [item]), *items[following:])


def meet(one, other):
    """Whether two rectangles have a place in common."""
    return one[0] <= other[2] and other[0] <= one[2] and one[1] <= other[3] and other[1] <= one[3]


def covers(merge, rectangle):
    """Whether a merge covers a place of a rectangle: whether both have one that is not the merge's first one."""
    if not meet(merge, rectangle):
        return False
    return (min(merge[2], rectangle[2]), min(merge[3], rectangle[3])) != merge[:2]


def wrong_cell(cells, merges, most):
    """What is wrong with the cells of a sheet with these merges."""
    return _wrong_item(cells, lambda item: _is_cell(item) and not _is_full_and_covered(item, merges), most)


def wrong_link(links, merges):
    """What is wrong with the links of a sheet with these merges."""
    return _wrong_item(links, lambda item: _is_link(item) and not is_covered_by(merges, item[0]), MOST_LINKS)


def wrong_setting(settings, most):
    """What is wrong with the settings of columns or rows, of which this is the greatest number."""
    return _wrong_item(settings, lambda item: is_setting(item, most), most)


def wrong_merge(merges):
    """What is wrong with the merges of a sheet."""
    if not is_row(merges):
        return (None,)
    for at, merge in enumerate(merges):
        if at == MOST_MERGES or not is_rectangle(merge) or merge[:2] == merge[2:]:
            return (at,)
        if at > 0 and merge <= merges[at - 1] or any(meet(one, merge) for one in merges[:at]):
            return (at,)
    return None


def is_frozen(value):
    """Whether a value of any kind is a pair of the numbers of frozen rows and columns."""
    return is_tuple_of(value, 2) and is_integer(value[0], 0, MOST_ROW) and is_integer(value[1], 0, MOST_COLUMN)


def is_setting(value, most):
    """Whether a value of any kind is a setting of a column or row, of which this is the greatest number."""
    if not is_tuple_of(value, 4) or not is_integer(value[0], 1, most) or not isinstance(value[2], bool):
        return False
    return is_size(value[1]) and is_style(value[3]) and value[1:] != (None, False, PLAIN)


def is_size(value):
    """Whether a value of any kind is the size of a column or row."""
    return value is None or is_integer(value, 0, MOST_SIZE)


def is_target(value):
    """Whether a value of any kind is the target of a link."""
    return is_short_string(value) and value != ""


def _index_of(items, at):
    """The index of the first of some items, ascending by their own first items, that is not in front of this one."""
    low, high = 0, len(items)
    while low < high:
        middle = (low + high) // 2
        if items[middle][0] < at:
            low = middle + 1
        else:
            high = middle
    return low


def _wrong_item(items, is_right, most):
    """Items are ascending by their own first items, each number or place once."""
    if not is_row(items):
        return (None,)
    before = None
    for at, item in enumerate(items):
        if at == most or not is_right(item) or before is not None and item[0] <= before:
            return (at,)
        before = item[0]
    return None


def _is_cell(value):
    if not is_tuple_of(value, 4) or not is_place(value[0]) or not is_value(value[1]):
        return False
    if value[2] is not None and not is_tree(value[2]):
        return False
    return is_style(value[3]) and value[1:] != (None, None, PLAIN)


def _is_full_and_covered(cell, merges):
    if cell[1] is None and cell[2] is None:
        return False
    return is_covered_by(merges, cell[0])


def _is_link(value):
    return is_tuple_of(value, 2) and is_place(value[0]) and is_target(value[1])
