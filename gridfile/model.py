"""Sheets and books."""

from gridfile.checks import is_integer, is_row
from gridfile.definitions import wrong_name
from gridfile.errors import (BadActive, BadBook, BadCells, BadColumns, BadFrozen, BadHidden, BadLinks, BadMerges,
                             BadNames, BadNumber, BadPlace, BadRows, BadSheetName, BadSheets, BadStyle, BadValue,
                             Covered, NoSheet, TooMuch)
from gridfile.parts import (is_covered_by, is_frozen, item_at, merge_with, with_item, wrong_cell, wrong_link,
                            wrong_merge, wrong_setting)
from gridfile.places import MOST_COLUMN, MOST_ROW, check_place
from gridfile.trees import check_tree
from gridfile.values import PLAIN, is_style, is_value
from gridfile.words import is_sheet_name

MOST_CELLS = 2000
MOST_SHEETS = 30
SHEET_PARTS = ("name", "cells", "merges", "columns", "rows", "frozen", "links", "hidden")
BOOK_PARTS = ("sheets", "active", "names")


class Sheet:
    """A sheet; it never changes."""

    def __init__(self, name, *, cells=(), merges=(), columns=(), rows=(), frozen=(0, 0), links=(), hidden=False):
        told = {"name": name, "cells": cells, "merges": merges, "columns": columns, "rows": rows, "frozen": frozen,
                "links": links, "hidden": hidden}
        _check_parts(told, SHEET_PARTS)
        self._keep(told)

    def _keep(self, told):
        """Takes parts that are known to be right, by their names."""
        self._name = told["name"]
        self._cells = tuple(told["cells"])
        self._merges = tuple(told["merges"])
        self._columns = tuple(told["columns"])
        self._rows = tuple(told["rows"])
        self._frozen = told["frozen"]
        self._links = tuple(told["links"])
        self._hidden = told["hidden"]

    @property
    def name(self):
        """The name."""
        return self._name

    @property
    def cells(self):
        """The tuple of the cells, ascending by their places."""
        return self._cells

    @property
    def merges(self):
        """The tuple of the merges, ascending."""
        return self._merges

    @property
    def columns(self):
        """The tuple of the settings of columns, ascending by their numbers."""
        return self._columns

    @property
    def rows(self):
        """The tuple of the settings of rows, ascending by their numbers."""
        return self._rows

    @property
    def frozen(self):
        """The pair of the numbers of frozen rows and columns."""
        return self._frozen

    @property
    def links(self):
        """The tuple of the links, ascending by their places."""
        return self._links

    @property
    def hidden(self):
        """Whether the sheet is hidden."""
        return self._hidden

    def cell_at(self, place):
        """The triple (value, formula, style) of a place."""
        check_place(place)
        return item_at(self._cells, place, (None, None, PLAIN))

    def merge_at(self, place):
        """The merge that has the place, or None."""
        check_place(place)
        return merge_with(self._merges, place)

    def is_covered(self, place):
        """Whether the place lies in a merge, and is not its first one."""
        check_place(place)
        return is_covered_by(self._merges, place)

    def link_at(self, place):
        """The target of the link of a place, or None."""
        check_place(place)
        return item_at(self._links, place, (None,))[0]

    def column_setting(self, column):
        """The triple (size, hidden, style) of a column."""
        if not is_integer(column, 1, MOST_COLUMN):
            raise BadPlace(column)
        return item_at(self._columns, column, (None, False, PLAIN))

    def row_setting(self, row):
        """The triple (size, hidden, style) of a row."""
        if not is_integer(row, 1, MOST_ROW):
            raise BadPlace(row)
        return item_at(self._rows, row, (None, False, PLAIN))

    def with_cell(self, place, value, formula=None, style=PLAIN):
        """A new sheet with another cell, or none, at this place."""
        check_place(place)
        if not is_value(value):
            raise BadValue(value)
        if formula is not None:
            check_tree(formula)
        if not is_style(style):
            raise BadStyle(style)
        if (value is not None or formula is not None) and self.is_covered(place):
            raise Covered(place)
        cell = (place, value, formula, style)
        cells = with_item(self._cells, place, None if cell[1:] == (None, None, PLAIN) else cell)
        if len(cells) > MOST_CELLS:
            raise TooMuch(MOST_CELLS)
        return with_right_parts(self, cells=cells)

    def changed(self, **parts):
        """A new sheet with other parts, by the names of the constructor."""
        _check_words(parts, SHEET_PARTS)
        # Its own parts are right already, but merges may cover what stands in them.
        _check_parts({**_told_parts(self), **parts}, SHEET_PARTS if "merges" in parts else tuple(parts))
        return with_right_parts(self, **parts)

    def is_same(self, other):
        """Whether other is a sheet with the same parts."""
        if not isinstance(other, Sheet) or _told_parts(self) != _told_parts(other):
            return False
        # Of equal parts only the values of cells can be of two kinds, like 1 and True.
        return all([isinstance(cell[1], bool) == isinstance(another[1], bool)
                    for cell, another in zip(self._cells, other.cells)])


class Book:
    """A book; it never changes."""

    def __init__(self, sheets, *, active=1, names=()):
        wrong = _wrong_sheet(sheets)
        if wrong is not None:
            raise BadSheets(wrong[0])
        if not is_integer(active, 1, len(sheets)):
            raise BadActive(active)
        wrong = wrong_name(names, [sheet.name for sheet in sheets])
        if wrong is not None:
            raise BadNames(wrong[0])
        self._keep(tuple(sheets), active, tuple(names))

    def _keep(self, sheets, active, names):
        """Takes parts that are known to be right."""
        self._sheets = sheets
        self._active = active
        self._names = names
        self._numbers = {sheet.name: at + 1 for at, sheet in enumerate(sheets)}

    @property
    def sheets(self):
        """The tuple of the sheets."""
        return self._sheets

    @property
    def active(self):
        """The number of the active sheet, counted from 1."""
        return self._active

    @property
    def names(self):
        """The tuple of the defined names, in their order."""
        return self._names

    def sheet_at(self, number):
        """The sheet with this number."""
        if not is_integer(number, 1, len(self._sheets)):
            raise NoSheet(number)
        return self._sheets[number - 1]

    def number_of(self, name):
        """The number of the sheet with this name."""
        if not isinstance(name, str) or name not in self._numbers:
            raise NoSheet(name)
        return self._numbers[name]

    def sheet_named(self, name):
        """The sheet with this name."""
        return self._sheets[self.number_of(name) - 1]

    def with_sheet(self, number, sheet):
        """A new book with another sheet of the same name at this number."""
        old = self.sheet_at(number)
        if not isinstance(sheet, Sheet) or sheet.name != old.name:
            raise BadSheets(number - 1)
        sheets = (*self._sheets[:number - 1], sheet, *self._sheets[number:])
        # The names of sheets stay, so the defined names are right still.
        return right_book(sheets, self._active, self._names)

    def changed(self, **parts):
        """A new book with other parts, by the names of the constructor."""
        _check_words(parts, BOOK_PARTS)
        told = {"sheets": self._sheets, "active": self._active, "names": self._names, **parts}
        return Book(told["sheets"], active=told["active"], names=told["names"])

    def is_same(self, other):
        """Whether other is a book with the same parts."""
        if not isinstance(other, Book) or len(self._sheets) != len(other.sheets):
            return False
        for sheet, another in zip(self._sheets, other.sheets):
            if not sheet.is_same(another):
                return False
        return self._active == other.active and self._names == other.names


def check_book(value):
    """Raises BadBook for what is no book."""
    if not isinstance(value, Book):
        raise BadBook(value)


def with_right_parts(sheet, **parts):
    """The sheet with other parts that are known to be right: checking them again would take long."""
    made = Sheet(sheet.name)
    made._keep({**_told_parts(sheet), **parts})
    return made


def right_book(sheets, active, names):
    """The book of parts, in tuples, of which the sheets alone are checked: checking the names would take long."""
    made = Book(sheets)
    made._keep(sheets, active, names)
    return made


def _check_parts(told, words):
    """Raises the first error that the constructor raises, if only the parts with these words can be wrong."""
    if "name" in words and not is_sheet_name(told["name"]):
        raise BadSheetName(told["name"])
    wrong_of_merges = wrong_merge(told["merges"]) if "merges" in words else None
    # Only right merges cover places.
    covering = told["merges"] if wrong_of_merges is None else ()
    wrong = wrong_cell(told["cells"], covering, MOST_CELLS) if "cells" in words else None
    if wrong is not None:
        raise BadCells(wrong[0])
    if wrong_of_merges is not None:
        raise BadMerges(wrong_of_merges[0])
    wrong = wrong_setting(told["columns"], MOST_COLUMN) if "columns" in words else None
    if wrong is not None:
        raise BadColumns(wrong[0])
    wrong = wrong_setting(told["rows"], MOST_ROW) if "rows" in words else None
    if wrong is not None:
        raise BadRows(wrong[0])
    if not is_frozen(told["frozen"]):
        raise BadFrozen(told["frozen"])
    wrong = wrong_link(told["links"], covering) if "links" in words else None
    if wrong is not None:
        raise BadLinks(wrong[0])
    if not isinstance(told["hidden"], bool):
        raise BadHidden(told["hidden"])


def _check_words(parts, known):
    for word in parts:
        if word not in known:
            raise BadNumber(word)


def _told_parts(sheet):
    """The parts of a sheet by the names of the constructor."""
    return {"name": sheet.name, "cells": sheet.cells, "merges": sheet.merges, "columns": sheet.columns,
            "rows": sheet.rows, "frozen": sheet.frozen, "links": sheet.links, "hidden": sheet.hidden}


def _wrong_sheet(sheets):
    """What is wrong with the sheets of a book: (index,), (None,) or None."""
    if not is_row(sheets):
        return (None,)
    if len(sheets) == 0:
        return (0,)
    taken = {}
    for at, sheet in enumerate(sheets):
        if at == MOST_SHEETS or not isinstance(sheet, Sheet) or sheet.name.lower() in taken:
            return (at,)
        taken[sheet.name.lower()] = True
    return None
