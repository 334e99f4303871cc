"""Books, trees and single things moved by edit maps; rows and columns inserted and deleted; sheets renamed."""

from gridfile.checks import is_integer, is_one_of
from gridfile.editmaps import EditMap
from gridfile.errors import BadFrozen, BadMap, BadNumber, BadSheetName, BadWord, Dangling, PastBorder, Taken
from gridfile.model import check_book, right_book, with_right_parts
from gridfile.moves import (AXES, ITEM_OF, frozen_behind, merge_behind, most_of, number_behind, place_behind,
                            tree_behind)
from gridfile.nodes import has_sheet_name, with_sheet_name
from gridfile.parts import is_frozen
from gridfile.places import check_place, check_rectangle
from gridfile.trees import check_tree
from gridfile.words import is_sheet_name


def moved_tree(tree, home, name, axis, edit_map):
    """The tree of the sheet home, or of no sheet, when the sheet name is moved."""
    check_tree(tree)
    if home is not None and not is_sheet_name(home):
        raise BadSheetName(home)
    if not is_sheet_name(name):
        raise BadSheetName(name)
    _check_map(axis, edit_map)
    return tree_behind(tree, home, name, axis, edit_map)


def moved(book, name, axis, edit_map):
    """The book when a sheet of it is moved."""
    check_book(book)
    book.number_of(name)
    _check_map(axis, edit_map)
    return _moved_book(book, name, axis, edit_map)


def inserted(book, name, axis, at, many):
    """The book with so many rows or columns inserted in a sheet."""
    _check_edit(book, name, axis, at, many)
    return _moved_book(book, name, axis, EditMap.inserting(at, many))


def deleted(book, name, axis, at, many):
    """The book with so many rows or columns of a sheet deleted."""
    _check_edit(book, name, axis, at, many)
    if at + many - 1 > most_of(axis):
        raise BadNumber(many)
    return _moved_book(book, name, axis, EditMap.deleting(at, many))


def touched(book, name, axis, edit_map):
    """The ascending tuple of the numbers of the sheets that do not stay the same."""
    sheets = moved(book, name, axis, edit_map).sheets
    return tuple([at + 1 for at, sheet in enumerate(book.sheets) if not sheet.is_same(sheets[at])])


def names_touched(book, name, axis, edit_map):
    """The tuple of the pairs (scope, word) of the names that do not stay the same."""
    names = moved(book, name, axis, edit_map).names
    return tuple([item[:2] for at, item in enumerate(book.names) if item != names[at]])


def moved_place(place, axis, edit_map):
    """Where a place comes to, or None if it vanishes."""
    check_place(place)
    _check_map(axis, edit_map)
    return place_behind(place, axis, edit_map, place)


def moved_merge(rectangle, axis, edit_map):
    """What becomes of a merge, or None if it vanishes."""
    check_rectangle(rectangle)
    _check_map(axis, edit_map)
    return merge_behind(rectangle, axis, edit_map, rectangle)


def moved_frozen(frozen, axis, edit_map):
    """What becomes of a pair of frozen counts."""
    if not is_frozen(frozen):
        raise BadFrozen(frozen)
    _check_map(axis, edit_map)
    return frozen_behind(frozen, axis, edit_map, frozen)


def renamed(book, name, other):
    """The book with another name of a sheet, also in references and scopes."""
    check_book(book)
    number = book.number_of(name)
    if not is_sheet_name(other):
        raise BadSheetName(other)
    for at, sheet in enumerate(book.sheets):
        if at + 1 != number and sheet.name.lower() == other.lower():
            raise Taken(other)
    if other != name and any([has_sheet_name(tree, other) for tree in _trees_in(book)]):
        raise Dangling(other)
    sheets = tuple([_renamed_sheet(sheet, name, other) for sheet in book.sheets])
    names = tuple([(other if scope == name else scope, word, with_sheet_name(tree, name, other))
                   for scope, word, tree in book.names])
    return right_book(sheets, book.active, names)


def _check_axis(value):
    if not is_one_of(value, AXES):
        raise BadWord(value)


def _check_map(axis, edit_map):
    _check_axis(axis)
    if not isinstance(edit_map, EditMap):
        raise BadMap(edit_map)


def _check_edit(book, name, axis, at, many):
    """Raises the errors that inserting and deleting have in common."""
    check_book(book)
    book.number_of(name)
    _check_axis(axis)
    for number in (at, many):
        if not is_integer(number, 1, most_of(axis)):
            raise BadNumber(number)


def _moved_book(book, name, axis, edit_map):
    # The sheet itself comes before the trees of any sheet, because the first refusal is told.
    goals = _goals_of(book.sheet_named(name), axis, edit_map)
    parts = _parts_behind(book.sheet_named(name), axis, edit_map)
    sheets = []
    for sheet in book.sheets:
        if sheet.name == name:
            parts["cells"] = _cells_behind(sheet, goals, name, axis, edit_map)
            sheets.append(with_right_parts(sheet, **parts))
        else:
            cells = _cells_behind(sheet, [cell[0] for cell in sheet.cells], name, axis, edit_map)
            sheets.append(with_right_parts(sheet, cells=cells))
    names = tuple([(scope, word, _tree_or_told(tree, scope, name, axis, edit_map, ("name", scope, word)))
                   for scope, word, tree in book.names])
    # Moved trees stand where they stood and are no deeper or heavier, so all parts are right.
    return right_book(tuple(sheets), book.active, names)


def _goals_of(sheet, axis, edit_map):
    """The list of the places to which the cells of a moved sheet come, None for those that vanish."""
    return [place_behind(cell[0], axis, edit_map, ("cell", cell[0])) for cell in sheet.cells]


def _parts_behind(sheet, axis, edit_map):
    """The other parts of a moved sheet, by the names of its constructor."""
    merges = [merge_behind(merge, axis, edit_map, ("merge", merge)) for merge in sheet.merges]
    settings = [(number_behind(setting[0], axis, edit_map, ("setting", setting[0])), *setting[1:])
                for setting in (sheet.rows if axis == "rows" else sheet.columns)]
    frozen = frozen_behind(sheet.frozen, axis, edit_map, ("frozen", sheet.frozen[ITEM_OF[axis]]))
    links = [(place_behind(place, axis, edit_map, ("link", place)), target) for place, target in sheet.links]
    # Merges that began in different rows may begin in the same one now, so their order is another one.
    return {"merges": tuple(sorted([merge for merge in merges if merge is not None])),
            axis: tuple([setting for setting in settings if setting[0] is not None]), "frozen": frozen,
            "links": tuple([link for link in links if link[0] is not None])}


def _cells_behind(sheet, goals, name, axis, edit_map):
    """The cells of a sheet that stay, at these places, when the sheet name is moved."""
    cells = [(goal, value, _tree_or_told(tree, sheet.name, name, axis, edit_map, ("tree", sheet.name, place)), style)
             for goal, (place, value, tree, style) in zip(goals, sheet.cells) if goal is not None]
    return tuple(cells)


def _tree_or_told(tree, home, name, axis, edit_map, thing):
    """The tree, if there is one, when the sheet name is moved; it tells the thing that has it if it refuses."""
    try:
        return None if tree is None else tree_behind(tree, home, name, axis, edit_map)
    except PastBorder:
        raise PastBorder(thing) from None


def _trees_in(book):
    """The list of all trees of cells and names."""
    trees = [cell[2] for sheet in book.sheets for cell in sheet.cells if cell[2] is not None]
    return trees + [item[2] for item in book.names]


def _renamed_sheet(sheet, name, other):
    cells = [(place, value, None if tree is None else with_sheet_name(tree, name, other), style)
             for place, value, tree, style in sheet.cells]
    return with_right_parts(sheet, name=other if sheet.name == name else sheet.name, cells=tuple(cells))
