"""Sheets and books."""

from gridfile.checks import is_integer, is_row
from gridfile.definitions import wrong_name
from gridfile.errors import (BadActive, BadBook, BadCells, BadColumns, BadFrozen, BadHidden, BadLinks, BadMerges,
                             BadNames, BadNumber, BadPlace, BadRows, BadSheetName, BadSheets, BadStyle, BadValue,
                             Covered, NoSheet, TooMuch)
from gridfile.parts import (is_covered_by, is_frozen, merge_with, wrong_cell, wrong_link, wrong_merge, wrong_setting)
from gridfile.places import MOST_COLUMN, MOST_ROW, check_place
from gridfile.trees import check_tree
from gridfile.values import PLAIN, is_style, is_value, same
from gridfile.words import is_sheet_name

MOST_CELLS = 2000
MOST_SHEETS = 30
SHEET_PARTS = ("name", "cells", "merges", "columns", "rows", "frozen", "links", "hidden")
BOOK_PARTS = ("sheets", "active", "names")


class Sheet:
    """A sheet; it never changes."""

    def __init__(self, name, *, cells=(), merges=(), columns=(), rows=(), frozen=(0, 0), links=(), hidden=False):
        _check_parts(name, cells, merges, columns, rows, frozen, links, hidden)
        self._keep(name, tuple(cells), tuple(merges), tuple(columns), tuple(rows), frozen, tuple(links), hidden)

    def _keep(self, name, cells, merges, columns, rows, frozen, links, hidden):
        """Takes parts that are known to be right."""
        self._name = name
        self._cells = cells
        self._merges = merges
        self._columns = columns
        self._rows = rows
        self._frozen = frozen
        self._links = links
        self._hidden = hidden
        self._by_place = {cell[0]: cell[1:] for cell in cells}
        self._by_column = {setting[0]: setting[1:] for setting in columns}
        self._by_row = {setting[0]: setting[1:] for setting in rows}
        self._targets = {link[0]: link[1] for link in links}

    @property
    def name(self):
        """The name."""
        return self._name

    @property
    def cells(self):
        """The tuple of the cells, ascending by their places."""
        return self._cells

    @property
    def merges(self):
        """The tuple of the merges, ascending."""
        return self._merges

    @property
    def columns(self):
        """The tuple of the settings of columns, ascending by their numbers."""
        return self._columns

    @property
    def rows(self):
        """The tuple of the settings of rows, ascending by their numbers."""
        return self._rows

    @property
    def frozen(self):
        """The pair of the numbers of frozen rows and columns."""
        return self._frozen

    @property
    def links(self):
        """The tuple of the links, ascending by their places."""
        return self._links

    @property
    def hidden(self):
        """Whether the sheet is hidden."""
        return self._hidden

    def cell_at(self, place):
        """The triple (value, formula, style) of a place."""
        check_place(place)
        return self._by_place.get(place, (None, None, PLAIN))

    def merge_at(self, place):
        """The merge that has the place, or None."""
        check_place(place)
        return merge_with(self._merges, place)

    def is_covered(self, place):
        """Whether the place lies in a merge, and is not its first one."""
        check_place(place)
        return is_covered_by(self._merges, place)

    def link_at(self, place):
        """The target of the link of a place, or None."""
        check_place(place)
        return self._targets.get(place)

    def column_setting(self, column):
        """The triple (size, hidden, style) of a column."""
        if not is_integer(column, 1, MOST_COLUMN):
            raise BadPlace(column)
        return self._by_column.get(column, (None, False, PLAIN))

    def row_setting(self, row):
        """The triple (size, hidden, style) of a row."""
        if not is_integer(row, 1, MOST_ROW):
            raise BadPlace(row)
        return self._by_row.get(row, (None, False, PLAIN))

    def with_cell(self, place, value, formula=None, style=PLAIN):
        """A new sheet with another cell, or none, at this place."""
        check_place(place)
        if not is_value(value):
            raise BadValue(value)
        if formula is not None:
            check_tree(formula)
        if not is_style(style):
            raise BadStyle(style)
        if (value is not None or formula is not None) and self.is_covered(place):
            raise Covered(place)
        cells = _with_cell(self._cells, (place, value, formula, style))
        if len(cells) > MOST_CELLS:
            raise TooMuch(MOST_CELLS)
        # The other parts are right already; checking them all again would take long.
        made = Sheet(self._name)
        made._keep(self._name, cells, self._merges, self._columns, self._rows, self._frozen, self._links, self._hidden)
        return made

    def changed(self, **parts):
        """A new sheet with other parts, by the names of the constructor."""
        _check_words(parts, SHEET_PARTS)
        told = {"name": self._name, "cells": self._cells, "merges": self._merges, "columns": self._columns,
                "rows": self._rows, "frozen": self._frozen, "links": self._links, "hidden": self._hidden, **parts}
        return Sheet(told["name"], cells=told["cells"], merges=told["merges"], columns=told["columns"],
                     rows=told["rows"], frozen=told["frozen"], links=told["links"], hidden=told["hidden"])

    def is_same(self, other):
        """Whether other is a sheet with the same parts."""
        return isinstance(other, Sheet) and same(_parts_of(self), _parts_of(other))


class Book:
    """A book; it never changes."""

    def __init__(self, sheets, *, active=1, names=()):
        wrong = _wrong_sheet(sheets)
        if wrong is not None:
            raise BadSheets(wrong[0])
        if not is_integer(active, 1, len(sheets)):
            raise BadActive(active)
        wrong = wrong_name(names, [sheet.name for sheet in sheets])
        if wrong is not None:
            raise BadNames(wrong[0])
        self._keep(tuple(sheets), active, tuple(names))

    def _keep(self, sheets, active, names):
        """Takes parts that are known to be right."""
        self._sheets = sheets
        self._active = active
        self._names = names
        self._numbers = {sheet.name: at + 1 for at, sheet in enumerate(sheets)}

    @property
    def sheets(self):
        """The tuple of the sheets."""
        return self._sheets

    @property
    def active(self):
        """The number of the active sheet, counted from 1."""
        return self._active

    @property
    def names(self):
        """The tuple of the defined names, in their order."""
        return self._names

    def sheet_at(self, number):
        """The sheet with this number."""
        if not is_integer(number, 1, len(self._sheets)):
            raise NoSheet(number)
        return self._sheets[number - 1]

    def number_of(self, name):
        """The number of the sheet with this name."""
        if not isinstance(name, str) or name not in self._numbers:
            raise NoSheet(name)
        return self._numbers[name]

    def sheet_named(self, name):
        """The sheet with this name."""
        return self._sheets[self.number_of(name) - 1]

    def with_sheet(self, number, sheet):
        """A new book with another sheet of the same name at this number."""
        old = self.sheet_at(number)
        if not isinstance(sheet, Sheet) or sheet.name != old.name:
            raise BadSheets(number - 1)
        sheets = (*self._sheets[:number - 1], sheet, *self._sheets[number:])
        # The names of sheets stay, so the defined names are right still.
        made = Book(sheets)
        made._keep(sheets, self._active, self._names)
        return made

    def changed(self, **parts):
        """A new book with other parts, by the names of the constructor."""
        _check_words(parts, BOOK_PARTS)
        told = {"sheets": self._sheets, "active": self._active, "names": self._names, **parts}
        return Book(told["sheets"], active=told["active"], names=told["names"])

    def is_same(self, other):
        """Whether other is a book with the same parts."""
        if not isinstance(other, Book) or len(self._sheets) != len(other.sheets):
            return False
        for sheet, another in zip(self._sheets, other.sheets):
            if not sheet.is_same(another):
                return False
        return self._active == other.active and same(self._names, other.names)


def check_book(value):
    """Raises BadBook for what is no book."""
    if not isinstance(value, Book):
        raise BadBook(value)


def with_right_names(book, names):
    """The book with other names, a tuple that is known to be right: checking it again would take long."""
    made = Book(book.sheets)
    made._keep(book.sheets, book.active, names)
    return made


def _check_parts(name, cells, merges, columns, rows, frozen, links, hidden):
    """Raises the first error that the constructor of a sheet raises."""
    if not is_sheet_name(name):
        raise BadSheetName(name)
    wrong_of_merges = wrong_merge(merges)
    # Only right merges cover places.
    covering = merges if wrong_of_merges is None else ()
    wrong = wrong_cell(cells, covering, MOST_CELLS)
    if wrong is not None:
        raise BadCells(wrong[0])
    if wrong_of_merges is not None:
        raise BadMerges(wrong_of_merges[0])
    wrong = wrong_setting(columns, MOST_COLUMN)
    if wrong is not None:
        raise BadColumns(wrong[0])
    wrong = wrong_setting(rows, MOST_ROW)
    if wrong is not None:
        raise BadRows(wrong[0])
    if not is_frozen(frozen):
        raise BadFrozen(frozen)
    wrong = wrong_link(links, covering)
    if wrong is not None:
        raise BadLinks(wrong[0])
    if not isinstance(hidden, bool):
        raise BadHidden(hidden)


def _check_words(parts, known):
    for word in parts:
        if word not in known:
            raise BadNumber(word)


def _with_cell(cells, cell):
    """The cells with another one at its place, or without one if it says only what holds anyway."""
    place = cell[0]
    before = [one for one in cells if one[0] < place]
    behind = [one for one in cells if one[0] > place]
    if cell[1:] == (None, None, PLAIN):
        return (*before, *behind)
    return (*before, cell, *behind)


def _parts_of(sheet):
    return (sheet.name, sheet.cells, sheet.merges, sheet.columns, sheet.rows, sheet.frozen, sheet.links, sheet.hidden)


def _wrong_sheet(sheets):
    """What is wrong with the sheets of a book: (index,), (None,) or None."""
    if not is_row(sheets):
        return (None,)
    if len(sheets) == 0:
        return (0,)
    taken = {}
    for at, sheet in enumerate(sheets):
        if at == MOST_SHEETS or not isinstance(sheet, Sheet) or sheet.name.lower() in taken:
            return (at,)
        taken[sheet.name.lower()] = True
    return None
