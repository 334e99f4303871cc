"""What the lines of file parts tell, kind by kind.

A relationship tells (type, number, target). In a book, (active, number), (sheet, number, name, relationship, hidden)
and (name, scope, word, tree), the scope being the number of a sheet or None; (string, number, text) in strings; in
styles (sort, number, part) and (style, number, part numbers); in a sheet (frozen, counts), (columns, first, last, size,
hidden, style), (rows, ..), (cell, place, value, style), (formula, rectangle, form), (merge, rectangle) and (link,
place, relationship). The value of a cell that is a text is ("string", number).
"""

from gridfile.checks import number_in
from gridfile.definitions import can_define
from gridfile.errors import BadForm, BadFormula, BadPlace, BadRectangle, BadTree
from gridfile.forms import read_form
from gridfile.formulas import read_formula
from gridfile.links import MOST_NUMBERED, relationship_number, relationship_of
from gridfile.parts import MOST_SIZE
from gridfile.places import MOST_COLUMN, MOST_ROW, column_number, place_at, rectangle_at
from gridfile.tables import PART_SORTS
from gridfile.values import (MOST_BORDER, MOST_COLOR, MOST_FONT_SIZE, MOST_NUMBER, PLAIN, is_short_string,
                             is_style_part)
from gridfile.words import is_name_word, is_sheet_name

HEADERS = {"links": "links", "book": "book", "parts": "links", "strings": "strings", "styles": "styles",
           "sheet": "sheet", "outer": "links"}
RELATIONSHIPS = {"links": ("book",), "parts": ("strings", "styles", "sheet"), "outer": ("outer",)}
VALUES = {"-": None, "true": True, "false": False, "#REF": ("error", "REF"), "#NAME": ("error", "NAME"),
          "#VALUE": ("error", "VALUE"), "#DIV": ("error", "DIV")}


def header_number(kind, line):
    """The number that a header of this kind tells, or None for another line."""
    return number_in(line[1], 0, MOST_NUMBERED) if len(line) == 2 and line[0] == HEADERS[kind] else None


def told_by(kind, line):
    """What a line tells, or None if it is none of this kind; headers tell nothing."""
    if kind in RELATIONSHIPS:
        relationship = relationship_of(line)
        if relationship is None or relationship[1] not in RELATIONSHIPS[kind]:
            return None
        return (relationship[1], relationship[0], relationship[2])
    if kind == "strings":
        return _string(line)
    if kind == "styles" and line[0] in PART_READERS:
        return _part(line[0], line[1:])
    if (kind, line[0]) not in READERS:
        return None
    reader = READERS[(kind, line[0])]
    return reader(line[1:])


def _numbered(item):
    """The number that a thing has in its table, or None."""
    return number_in(item, 1, MOST_NUMBERED)


def _text(item):
    """The string of an item that is a text, or None."""
    return item[0] if isinstance(item, tuple) else None


def _options(items, words):
    """For each of the words whether it is among the items, or None if these are not some of the words, in order."""
    if list(items) != [word for word in words if word in items]:
        return None
    return tuple([word in items for word in words])


def _active(items):
    number = _numbered(items[0]) if len(items) == 1 else None
    return None if number is None else ("active", number)


def _sheet(items):
    if len(items) < 3:
        return None
    number = _numbered(items[0])
    name = _text(items[1])
    relationship = relationship_number(items[2])
    hidden = _options(items[3:], ("hidden",))
    if number is None or not is_sheet_name(name) or relationship is None or hidden is None:
        return None
    return ("sheet", number, name, relationship, *hidden)


def _name(items):
    if len(items) != 3 or not is_name_word(items[1]):
        return None
    scope = None if items[0] == "-" else _numbered(items[0])
    if scope is None and items[0] != "-":
        return None
    tree = _tree(_text(items[2]))
    return ("name", scope, items[1], tree) if can_define(scope, tree) else None


def _tree(text):
    """The tree of a formula, or None."""
    try:
        return read_formula(text)
    except (BadFormula, BadTree):
        return None


def _string(line):
    if len(line) != 2:
        return None
    number = _numbered(line[0])
    text = _text(line[1])
    return ("string", number, text) if number is not None and is_short_string(text) else None


def _part(sort, items):
    if items == ():
        return None
    number = _numbered(items[0])
    reader = PART_READERS[sort]
    part = reader(items[1:])
    at = PART_SORTS.index(sort)
    # What is PLAIN has no line.
    if number is None or not is_style_part(at, part) or part == PLAIN[at]:
        return None
    return (sort, number, part)


def _format(items):
    return _text(items[0]) if len(items) == 1 else None


def _font(items):
    options = _options(items[2:], ("bold", "italic"))
    if len(items) < 2 or options is None:
        return None
    return (_text(items[0]), number_in(items[1], 1, MOST_FONT_SIZE), *options)


def _fill(items):
    return number_in(items[0], 0, MOST_COLOR) if len(items) == 1 else None


def _border(items):
    return tuple([number_in(item, 0, MOST_BORDER) for item in items])


def _align(items):
    options = _options(items[1:], ("wrap",))
    return None if items == () or options is None else (items[0], *options)


def _style(items):
    if len(items) != len(PART_SORTS) + 1:
        return None
    number = _numbered(items[0])
    parts = tuple([number_in(item, 0, MOST_NUMBERED) for item in items[1:]])
    if number is None or None in parts or parts == (0, 0, 0, 0, 0):
        return None
    return ("style", number, parts)


def _frozen(items):
    if len(items) != 2:
        return None
    counts = (number_in(items[0], 0, MOST_ROW), number_in(items[1], 0, MOST_COLUMN))
    return None if None in counts or counts == (0, 0) else ("frozen", counts)


def _columns(items):
    return _setting("columns", items)


def _rows(items):
    return _setting("rows", items)


def _setting(axis, items):
    if len(items) < 3 or not isinstance(items[0], str):
        return None
    start, _, end = items[0].partition("-")
    first, last = _number_on(axis, start), _number_on(axis, end)
    size = _size(items[1])
    style = number_in(items[2], 0, MOST_NUMBERED)
    hidden = _options(items[3:], ("hidden",))
    if None in (first, last, size, style, hidden) or first > last or (size, style, hidden) == ((None,), 0, (False,)):
        return None
    return (axis, first, last, *size, *hidden, style)


def _number_on(axis, text):
    """The row, or the column, that a text names, or None."""
    if axis == "rows":
        return number_in(text, 1, MOST_ROW)
    try:
        return column_number(text)
    except BadPlace:
        return None


def _size(item):
    """The size, alone in a tuple as it may be None, or None if the item is no size."""
    if item == "-":
        return (None,)
    size = number_in(item, 0, MOST_SIZE)
    return None if size is None else (size,)


def _cell(items):
    if len(items) != 3:
        return None
    place = _place(items[0])
    value = _value(items[1])
    style = number_in(items[2], 0, MOST_NUMBERED)
    if place is None or value is None or style is None or (value, style) == ((None,), 0):
        return None
    return ("cell", place, *value, style)


def _value(item):
    """The value, alone in a tuple as it may be None, or None if the item is no value."""
    if not isinstance(item, str):
        return None
    if item in VALUES:
        return (VALUES[item],)
    if item.startswith("s"):
        number = _numbered(item[1:])
        return None if number is None else (("string", number),)
    number = number_in(item.removeprefix("-"), 0, MOST_NUMBER)
    if number is None or item == "-0":
        return None
    return (-number,) if item.startswith("-") else (number,)


def _formula(items):
    if len(items) != 2:
        return None
    rectangle = _rectangle(items[0])
    form = _form(_text(items[1]))
    if rectangle is None or form is None or rectangle[0] != rectangle[2] and rectangle[1] != rectangle[3]:
        return None
    return ("formula", rectangle, form)


def _form(text):
    """The form of a text, or None."""
    try:
        return read_form(text)
    except (BadFormula, BadForm):
        return None


def _merge(items):
    rectangle = _rectangle(items[0]) if len(items) == 1 else None
    return None if rectangle is None or rectangle[:2] == rectangle[2:] else ("merge", rectangle)


def _link(items):
    if len(items) != 2:
        return None
    place = _place(items[0])
    relationship = relationship_number(items[1])
    return None if place is None or relationship is None else ("link", place, relationship)


def _place(item):
    """The place that an item names, or None."""
    try:
        return place_at(item)
    except BadPlace:
        return None


def _rectangle(item):
    """The rectangle that an item names, or None."""
    try:
        return rectangle_at(item)
    except BadRectangle:
        return None


# They stand here because they need the functions above them.
PART_READERS = {"format": _format, "font": _font, "fill": _fill, "border": _border, "align": _align}
READERS = {("book", "active"): _active, ("book", "sheet"): _sheet, ("book", "name"): _name, ("styles", "style"): _style,
           ("sheet", "frozen"): _frozen, ("sheet", "columns"): _columns, ("sheet", "rows"): _rows,
           ("sheet", "cell"): _cell, ("sheet", "formula"): _formula, ("sheet", "merge"): _merge,
           ("sheet", "link"): _link}
