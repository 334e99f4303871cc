"""The things of a book, and books from which some are taken away."""

from gridfile.gathering import LONE_SHEET
from gridfile.model import Sheet, right_book, with_right_parts
from gridfile.tables import PART_SORTS
from gridfile.values import PLAIN, same


def things_in(book):
    """The list of the things of a book, in their order."""
    things = [] if book.active == 1 else [("active",)]
    for sheet in book.sheets:
        things.extend(_things_of_sheet(sheet))
    return things + [("name", scope, word) for scope, word, _ in book.names]


def book_without(book, things):
    """The book without these things; what is no thing of the book is passed over."""
    known = {thing: thing for thing in things_in(book)}
    gone = {thing: True for thing in things if is_among(known, thing)}
    touched = {thing[1]: True for thing in gone if len(thing) > 1}
    sheets = tuple([_without(sheet, gone) if sheet.name in touched else sheet for sheet in book.sheets
                    if ("sheet", sheet.name) not in gone])
    scopes = {sheet.name: at + 1 for at, sheet in enumerate(sheets)}
    names = tuple([item for item in book.names if ("name", item[0], item[1]) not in gone
                   and (item[0] is None or item[0] in scopes)])
    active = 1 if ("active",) in gone else scopes.get(book.sheet_at(book.active).name, 1)
    return right_book(sheets if sheets != () else (Sheet(LONE_SHEET),), active, names)


def is_among(known, value):
    """Whether a value of any kind is the same as one of some things, which are the keys and the values of a dict."""
    # What is equal to a thing may still have True in the place of 1.
    return _is_key(value) and value in known and same(known[value], value)


def _is_key(value):
    """Whether a value of any kind is made like a thing, so that it can be looked for."""
    return isinstance(value, tuple) and all([_is_plain(item) or _is_numbers(item) for item in value])


def _is_plain(value):
    return value is None or isinstance(value, (int, str))


def _is_numbers(value):
    return isinstance(value, tuple) and all([isinstance(item, int) for item in value])


def _things_of_sheet(sheet):
    name = sheet.name
    things = [("sheet", name)]
    if sheet.hidden:
        things.append(("hidden", name))
    if sheet.frozen != (0, 0):
        things.append(("frozen", name))
    for axis, settings in (("columns", sheet.columns), ("rows", sheet.rows)):
        for number, size, hidden, style in settings:
            things.extend(_setting_things((name, axis, number), size, hidden, style))
    for place, value, formula, style in sheet.cells:
        if value is not None:
            things.append(("value", name, place))
        if formula is not None:
            things.append(("formula", name, place))
        things.extend(_style_things(style, (name, place)))
    things.extend([("merge", name, merge) for merge in sheet.merges])
    return things + [("link", name, place) for place, _ in sheet.links]


def _setting_things(where, size, hidden, style):
    """The list of the things of a setting of a row or column, which is told by the items of a tuple."""
    things = [] if size is None else [("size", *where)]
    if hidden:
        things.append(("hidden", *where))
    return things + _style_things(style, where)


def _style_things(style, where):
    return [(sort, *where) for sort, part, plain in zip(PART_SORTS, style, PLAIN) if part != plain]


def _without(sheet, gone):
    """The sheet without the things that are gone."""
    name = sheet.name
    cells = [(place, None if ("value", name, place) in gone else value,
              None if ("formula", name, place) in gone else formula, _style_left(style, (name, place), gone))
             for place, value, formula, style in sheet.cells]
    columns = _settings_left(name, "columns", sheet.columns, gone)
    rows = _settings_left(name, "rows", sheet.rows, gone)
    return with_right_parts(
        sheet, cells=tuple([cell for cell in cells if cell[1:] != (None, None, PLAIN)]), columns=columns, rows=rows,
        merges=tuple([merge for merge in sheet.merges if ("merge", name, merge) not in gone]),
        links=tuple([link for link in sheet.links if ("link", name, link[0]) not in gone]),
        frozen=(0, 0) if ("frozen", name) in gone else sheet.frozen,
        hidden=sheet.hidden and ("hidden", name) not in gone)


def _settings_left(name, axis, settings, gone):
    left = []
    for number, size, hidden, style in settings:
        where = (name, axis, number)
        setting = (None if ("size", *where) in gone else size, hidden and ("hidden", *where) not in gone,
                   _style_left(style, where, gone))
        if setting != (None, False, PLAIN):
            left.append((number, *setting))
    return tuple(left)


def _style_left(style, where, gone):
    return tuple([plain if (sort, *where) in gone else part for sort, part, plain in zip(PART_SORTS, style, PLAIN)])
