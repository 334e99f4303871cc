"""Edits done in books, word by word. They are known to have the form of edits; what refuses them is raised."""

from gridfile.errors import Covered, NoMerge, StillActive, Taken, TooMuch
from gridfile.model import MOST_SHEETS, Sheet, right_book, with_right_parts
from gridfile.names import names_in_order, with_name, without_name
from gridfile.parts import MOST_LINKS, MOST_MERGES, covers, is_covered_by, meet, with_item
from gridfile.shifting import deleted, inserted, renamed
from gridfile.values import PLAIN


def done(book, edit):
    """The book behind an edit."""
    action = ACTIONS[edit[0]]
    return action(book, edit)


def done_all(book, edits):
    """The book behind a row of edits."""
    for edit in edits:
        book = done(book, edit)
    return book


def _do_all(book, edit):
    return done_all(book, edit[1])


def _with_parts(book, sheet, **parts):
    """The book with other parts of one of its sheets, which are known to be right."""
    return book.with_sheet(book.number_of(sheet.name), with_right_parts(sheet, **parts))


def _do_cell(book, edit):
    _, name, place, value, formula, style = edit
    sheet = book.sheet_named(name)
    return book.with_sheet(book.number_of(name), sheet.with_cell(place, value, formula, style))


def _do_link(book, edit):
    _, name, place, target = edit
    sheet = book.sheet_named(name)
    if target is not None and is_covered_by(sheet.merges, place):
        raise Covered(place)
    links = with_item(sheet.links, place, None if target is None else (place, target))
    if len(links) > MOST_LINKS:
        raise TooMuch(MOST_LINKS)
    return _with_parts(book, sheet, links=links)


def _do_merge(book, edit):
    _, name, rectangle = edit
    sheet = book.sheet_named(name)
    for merge in sheet.merges:
        if meet(merge, rectangle):
            raise Taken(merge)
    full = [cell[0] for cell in sheet.cells if cell[1] is not None or cell[2] is not None]
    full.extend([link[0] for link in sheet.links])
    first = min([place for place in full if covers(rectangle, (*place, *place))], default=None)
    if first is not None:
        raise Covered(first)
    if len(sheet.merges) == MOST_MERGES:
        raise TooMuch(MOST_MERGES)
    return _with_parts(book, sheet, merges=tuple(sorted([*sheet.merges, rectangle])))


def _do_split(book, edit):
    _, name, rectangle = edit
    sheet = book.sheet_named(name)
    if rectangle not in sheet.merges:
        raise NoMerge(rectangle)
    return _with_parts(book, sheet, merges=tuple([merge for merge in sheet.merges if merge != rectangle]))


def _do_setting(book, edit):
    _, name, axis, number, *setting = edit
    sheet = book.sheet_named(name)
    item = None if setting == [None, False, PLAIN] else (number, *setting)
    if axis == "columns":
        return _with_parts(book, sheet, columns=with_item(sheet.columns, number, item))
    return _with_parts(book, sheet, rows=with_item(sheet.rows, number, item))


def _do_freeze(book, edit):
    _, name, rows, columns = edit
    return _with_parts(book, book.sheet_named(name), frozen=(rows, columns))


def _do_hide(book, edit):
    _, name, hidden = edit
    return _with_parts(book, book.sheet_named(name), hidden=hidden)


def _do_activate(book, edit):
    return right_book(book.sheets, book.number_of(edit[1]), book.names)


def _do_insert(book, edit):
    _, name, axis, at, many = edit
    return inserted(book, name, axis, at, many)


def _do_delete(book, edit):
    _, name, axis, at, many = edit
    return deleted(book, name, axis, at, many)


def _do_add(book, edit):
    _, name, behind = edit
    at = _index_behind(book, behind)
    if len(book.sheets) == MOST_SHEETS:
        raise TooMuch(MOST_SHEETS)
    if name.lower() in [sheet.name.lower() for sheet in book.sheets]:
        raise Taken(name)
    sheets = (*book.sheets[:at], Sheet(name), *book.sheets[at:])
    return right_book(sheets, book.active + 1 if book.active > at else book.active, book.names)


def _do_remove(book, edit):
    number = book.number_of(edit[1])
    if number == book.active:
        raise StillActive(edit[1])
    sheets = (*book.sheets[:number - 1], *book.sheets[number:])
    names = tuple([item for item in book.names if item[0] != edit[1]])
    return right_book(sheets, book.active - 1 if book.active > number else book.active, names)


def _do_order(book, edit):
    _, name, behind = edit
    number = book.number_of(name)
    at = _index_behind(book, behind)
    active = book.sheet_at(book.active).name
    others = [sheet for sheet in book.sheets if sheet.name != name]
    # In front of what was behind it, the sheet itself no longer counts.
    at = at - 1 if number <= at else at
    sheets = (*others[:at], book.sheet_named(name), *others[at:])
    return right_book(sheets, [sheet.name for sheet in sheets].index(active) + 1, names_in_order(sheets, book.names))


def _do_rename(book, edit):
    _, name, other = edit
    return renamed(book, name, other)


def _do_name(book, edit):
    _, scope, word, tree = edit
    return without_name(book, scope, word) if tree is None else with_name(book, scope, word, tree)


def _index_behind(book, behind):
    """The index at which a sheet stands that comes behind this one, or in front of all for None."""
    return 0 if behind is None else book.number_of(behind)


# It stands here because it needs the functions above it.
ACTIONS = {"cell": _do_cell, "link": _do_link, "merge": _do_merge, "split": _do_split, "setting": _do_setting,
           "freeze": _do_freeze, "hide": _do_hide, "activate": _do_activate, "insert": _do_insert,
           "delete": _do_delete, "add": _do_add, "remove": _do_remove, "order": _do_order, "rename": _do_rename,
           "name": _do_name, "all": _do_all}
