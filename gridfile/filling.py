"""Rectangles of a sheet filled from a place, or copied, and what filling loses."""

from gridfile.errors import BadSheet, Covered, PastBorder, TooMuch
from gridfile.model import MOST_CELLS, Sheet, with_right_parts
from gridfile.offsets import filled_tree, form_of, room_of_form, tree_of
from gridfile.places import check_place, check_rectangle, common, is_rectangle, places_in, size_of, without
from gridfile.values import PLAIN


def filled(sheet, start, rectangle):
    """The sheet with the cell of one place, filled, at all places of a rectangle."""
    _check_sheet(sheet)
    check_place(start)
    check_rectangle(rectangle)
    value, formula, style = sheet.cell_at(start)
    _, others = _parted(sheet.cells, rectangle)
    if (value, formula, style) == (None, None, PLAIN):
        return with_right_parts(sheet, cells=tuple(others))
    if value is not None or formula is not None:
        covered = _first_covered(sheet, rectangle)
        if covered is not None:
            raise Covered(covered)
    # Counted first, as a rectangle can have very many places.
    if size_of(rectangle) + len(others) > MOST_CELLS:
        raise TooMuch(MOST_CELLS)
    form = None if formula is None else form_of(formula, start)
    cells = [(place, value, None if form is None else tree_of(form, place), style) for place in places_in(rectangle)]
    return _with_cells(sheet, others + cells)


def copied(sheet, rectangle, goal):
    """The sheet with the cells of a rectangle, filled, also at the places from another one on."""
    _check_sheet(sheet)
    check_rectangle(rectangle)
    check_place(goal)
    down, along = goal[0] - rectangle[0], goal[1] - rectangle[1]
    target = (*goal, rectangle[2] + down, rectangle[3] + along)
    if not is_rectangle(target):
        raise PastBorder(goal)
    _, others = _parted(sheet.cells, target)
    inside, _ = _parted(sheet.cells, rectangle)
    cells = [_copied_cell(cell, down, along) for cell in inside]
    for place, value, formula, _ in cells:
        if (value is not None or formula is not None) and sheet.is_covered(place):
            raise Covered(place)
    if len(others) + len(cells) > MOST_CELLS:
        raise TooMuch(MOST_CELLS)
    return _with_cells(sheet, others + cells)


def safe_part(sheet, start, rectangle):
    """The rectangle of the places of a rectangle at which filling loses nothing, or None."""
    room = _room_to_fill(sheet, start, rectangle)
    return None if room is None else common(rectangle, room)


def losing_parts(sheet, start, rectangle):
    """The tuple of the rectangles that make up the places of a rectangle at which filling loses something."""
    room = _room_to_fill(sheet, start, rectangle)
    return (rectangle,) if room is None else without(rectangle, room)


def _room_to_fill(sheet, start, rectangle):
    """The room of the formula of a place, which is at least the rectangle if there is no formula."""
    _check_sheet(sheet)
    check_place(start)
    check_rectangle(rectangle)
    formula = sheet.cell_at(start)[1]
    return rectangle if formula is None else room_of_form(form_of(formula, start))


def _check_sheet(value):
    if not isinstance(value, Sheet):
        raise BadSheet(value)


def _first_covered(sheet, rectangle):
    """The first covered place of a rectangle, by rows, or None."""
    found = []
    for merge in sheet.merges:
        shared = common(rectangle, merge)
        if shared is not None:
            # All places of a merge but its first one are covered, so two places on are enough.
            rows = (shared[0], min(shared[0] + 1, shared[2]))
            columns = (shared[1], min(shared[1] + 1, shared[3]))
            found.extend([(row, column) for row in rows for column in columns if (row, column) != merge[:2]])
    return min(found, default=None)


def _copied_cell(cell, down, along):
    place, value, formula, style = cell
    goal = (place[0] + down, place[1] + along)
    return (goal, value, None if formula is None else filled_tree(formula, place, goal), style)


def _parted(cells, rectangle):
    """The pair of the lists of the cells in a rectangle, and of the others."""
    top, left, bottom, right = rectangle
    inside, outside = [], []
    for cell in cells:
        row, column = cell[0]
        if top <= row <= bottom and left <= column <= right:
            inside.append(cell)
        else:
            outside.append(cell)
    return inside, outside


def _with_cells(sheet, cells):
    """The sheet with these cells, which are right: their values, trees and styles come from its own ones."""
    return with_right_parts(sheet, cells=tuple(sorted(cells, key=lambda cell: cell[0])))
