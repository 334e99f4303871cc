"""What becomes of an edit behind another edit of the same book; nothing is checked here.

PastBorder is raised if an edit would leave the grid.
"""

from gridfile.editmaps import EditMap
from gridfile.errors import PastBorder
from gridfile.moves import frozen_behind, merge_behind, most_of, number_behind, place_behind, tree_behind
from gridfile.nodes import with_sheet_name

NOTHING = ("all", ())
# The edits that have the name of a sheet of the book as their first item.
OF_SHEETS = ("cell", "link", "merge", "split", "setting", "freeze", "hide", "activate", "insert", "delete", "remove",
             "order", "rename")


def edit_behind(edit, other):
    """What an edit becomes behind the other one."""
    if other[0] in ("insert", "delete"):
        return _moved(edit, other)
    if other[0] == "rename":
        return _renamed(edit, other[1], other[2])
    if other[0] == "remove" and edit[0] in (*OF_SHEETS, "name") and edit[1] == other[1]:
        return NOTHING
    return edit


def _moved(edit, other):
    """The edit behind an insertion or deletion."""
    word, name, axis, at, many = other
    edit_map = EditMap.inserting(at, many) if word == "insert" else EditMap.deleting(at, many)
    if edit[0] == "cell":
        return _moved_cell(edit, name, axis, edit_map)
    if edit[0] == "name":
        _, scope, inner, tree = edit
        return ("name", scope, inner, None if tree is None else tree_behind(tree, scope, name, axis, edit_map))
    if edit[0] not in MOVERS or edit[1] != name:
        return edit
    mover = MOVERS[edit[0]]
    return mover(edit, axis, edit_map)


def _moved_cell(edit, name, axis, edit_map):
    _, home, place, value, formula, style = edit
    goal = place_behind(place, axis, edit_map, place) if home == name else place
    if goal is None:
        return NOTHING
    tree = None if formula is None else tree_behind(formula, home, name, axis, edit_map)
    return ("cell", home, goal, value, tree, style)


def _moved_link(edit, axis, edit_map):
    goal = place_behind(edit[2], axis, edit_map, edit[2])
    return NOTHING if goal is None else (*edit[:2], goal, edit[3])


def _moved_merge(edit, axis, edit_map):
    rectangle = merge_behind(edit[2], axis, edit_map, edit[2])
    return NOTHING if rectangle is None else (*edit[:2], rectangle)


def _moved_setting(edit, axis, edit_map):
    if edit[2] != axis:
        return edit
    number = number_behind(edit[3], axis, edit_map, edit[3])
    return NOTHING if number is None else (*edit[:3], number, *edit[4:])


def _moved_freeze(edit, axis, edit_map):
    return (*edit[:2], *frozen_behind(edit[2:], axis, edit_map, edit[2:]))


def _moved_insert(edit, axis, edit_map):
    # A deletion that takes the row at which something is inserted touches it, so the row has a new number.
    return edit if edit[2] != axis else (*edit[:3], number_behind(edit[3], axis, edit_map, edit[3]), edit[4])


def _moved_delete(edit, axis, edit_map):
    if edit[2] != axis:
        return edit
    numbers = [edit_map.new_of(number) for number in range(edit[3], edit[3] + edit[4])]
    left = [number for number in numbers if number is not None]
    if left == []:
        return NOTHING
    if left[-1] > most_of(axis):
        raise PastBorder(edit[3])
    return (*edit[:3], left[0], len(left))


def _renamed(edit, old, new):
    """The edit behind the new name of a sheet."""
    if edit[0] in OF_SHEETS or edit[0] == "name":
        edit = (edit[0], _new_name(edit[1], old, new), *edit[2:])
    if edit[0] in ("add", "order"):
        return (*edit[:2], _new_name(edit[2], old, new))
    if edit[0] == "cell" and edit[4] is not None:
        return (*edit[:4], with_sheet_name(edit[4], old, new), edit[5])
    if edit[0] == "name" and edit[3] is not None:
        return (*edit[:3], with_sheet_name(edit[3], old, new))
    return edit


def _new_name(name, old, new):
    return new if name == old else name


# It stands here because it needs the functions above it.
MOVERS = {"link": _moved_link, "merge": _moved_merge, "split": _moved_merge, "setting": _moved_setting,
          "freeze": _moved_freeze, "insert": _moved_insert, "delete": _moved_delete}
