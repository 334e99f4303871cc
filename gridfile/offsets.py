"""Relative forms of trees, trees of forms at a place, and the rooms of references; nothing is checked here."""

from gridfile.nodes import references_of, with_references
from gridfile.places import MOST_COLUMN, MOST_ROW, is_place, is_rectangle

FORM_WORDS = {"cell": "rcell", "range": "rrange"}
TREE_WORDS = {"rcell": "cell", "rrange": "range"}


def form_of(tree, place):
    """The relative form of a tree at a place."""
    return with_references(tree, lambda node: _form_of_reference(node, place))


def tree_of(form, place):
    """The tree that a form gives at a place."""
    return with_references(form, lambda node: _tree_of_reference(node, place))


def filled_tree(tree, start, goal):
    """The tree that filling makes of a tree."""
    return tree_of(form_of(tree, start), goal)


def room_of_form(form):
    """The rectangle of the places at which nothing of a form is lost, or None."""
    return _room_of_parts([part for _, node in references_of(form) for part in node[2:]])


def room_of_reference(node):
    """The room of one reference of a form, or None."""
    return _room_of_parts(node[2:])


def _form_of_reference(node, place):
    parts = [_moved_part(part, -place[0], -place[1]) for part in node[2:]]
    return (FORM_WORDS[node[0]], node[1], *parts)


def _tree_of_reference(node, place):
    parts = [_moved_part(part, place[0], place[1]) for part in node[2:]]
    if not all(is_place(part[:2]) for part in parts):
        return ("lost",)
    return (TREE_WORDS[node[0]], node[1], *parts)


def _moved_part(part, down, along):
    """The part with so much added to each number that is not fixed."""
    row, column, is_row_fixed, is_column_fixed = part
    return (row if is_row_fixed else row + down, column if is_column_fixed else column + along,
            is_row_fixed, is_column_fixed)


def _room_of_parts(parts):
    rows = [part[0] for part in parts if not part[2]]
    columns = [part[1] for part in parts if not part[3]]
    top, bottom = _room_of_offsets(rows, MOST_ROW)
    left, right = _room_of_offsets(columns, MOST_COLUMN)
    room = (top, left, bottom, right)
    return room if is_rectangle(room) else None


def _room_of_offsets(offsets, most):
    """The first and the last number at which no offset leads out of the grid; the first may be the greater one."""
    return 1 - min([*offsets, 0]), most - max([*offsets, 0])
