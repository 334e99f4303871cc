"""What the kept lines of a file say together: its tables, sheets and book, and which lines refer to what is lost.

A lost line is a pair (path, number); those that are found are appended to a list that is passed.
"""

from gridfile.links import links_of
from gridfile.model import Book, Sheet
from gridfile.offsets import tree_of
from gridfile.places import places_in
from gridfile.tables import PART_SORTS
from gridfile.values import PLAIN

LONE_SHEET = "Sheet1"


def book_and_complaints(outline):
    """The pair of the book that is read and of the list of the complaints, in no order."""
    lost = []
    book = _book_told(outline, _sheets_told(outline, lost), lost)
    return book, outline.complaints_of_lines() + [(path, number, "lost", None) for path, number in lost]


def texts_told(outline):
    """The texts of the string lines, by their numbers."""
    return {label: text for _, (_, label, text) in outline.told_in(outline.strings_path)}


def targets_told(outline, path):
    """The targets of the relationships of a sheet part, by their numbers."""
    return {label: target for _, (_, label, target) in outline.told_in(links_of(path))}


def styles_told(outline, lost):
    """The styles of the style rows, by their numbers."""
    parts = {sort: {} for sort in PART_SORTS}
    told_lines = outline.told_in(outline.styles_path)
    for _, told in told_lines:
        if told[0] != "style":
            parts[told[0]][told[1]] = told[2]
    styles = {}
    for number, told in told_lines:
        if told[0] == "style":
            if any([part != 0 and part not in parts[PART_SORTS[at]] for at, part in enumerate(told[2])]):
                lost.append((outline.styles_path, number))
            styles[told[1]] = tuple([parts[PART_SORTS[at]].get(part, PLAIN[at]) for at, part in enumerate(told[2])])
    return styles


def _sheets_told(outline, lost):
    """What the sheet parts say, as parts of a sheet by their names, by the numbers of their relationships."""
    texts = texts_told(outline)
    styles = styles_told(outline, lost)
    return {label: _sheet_told(outline, path, texts, styles, lost) for label, path in outline.sheet_paths.items()}


def _sheet_told(outline, path, texts, styles, lost):
    by_word = {}
    for number, told in outline.told_in(path):
        by_word.setdefault(told[0], []).append((number, told))
    lost_here = []
    parts = {"cells": _cells_told(by_word, texts, styles, lost_here),
             "merges": sorted([told[1] for _, told in by_word.get("merge", [])]),
             "columns": _settings_told(by_word.get("columns", []), styles, lost_here),
             "rows": _settings_told(by_word.get("rows", []), styles, lost_here),
             "links": _links_told(by_word.get("link", []), targets_told(outline, path), lost_here)}
    for _, told in by_word.get("frozen", []):
        parts["frozen"] = told[1]
    lost.extend([(path, number) for number in lost_here])
    return parts


def _cells_told(by_word, texts, styles, lost_here):
    cells = {}
    for number, (_, place, value, style) in by_word.get("cell", []):
        is_text = isinstance(value, tuple) and value[0] == "string"
        if is_text and value[1] not in texts or style != 0 and style not in styles:
            lost_here.append(number)
        cells[place] = (texts.get(value[1]) if is_text else value, None, styles.get(style, PLAIN))
    for _, (_, rectangle, form) in by_word.get("formula", []):
        for place in places_in(rectangle):
            value, _, style = cells.get(place, (None, None, PLAIN))
            cells[place] = (value, tree_of(form, place), style)
    return [(place, *cells[place]) for place in sorted(cells) if cells[place] != (None, None, PLAIN)]


def _settings_told(told_lines, styles, lost_here):
    settings = []
    for number, (_, first, last, size, hidden, style) in told_lines:
        if style != 0 and style not in styles:
            lost_here.append(number)
        setting = (size, hidden, styles.get(style, PLAIN))
        if setting != (None, False, PLAIN):
            settings.extend([(at, *setting) for at in range(first, last + 1)])
    return sorted(settings, key=lambda setting: setting[0])


def _links_told(told_lines, targets, lost_here):
    lost_here.extend([number for number, told in told_lines if told[2] not in targets])
    links = [(told[1], targets[told[2]]) for _, told in told_lines if told[2] in targets]
    return sorted(links, key=lambda link: link[0])


def _book_told(outline, contents, lost):
    path = outline.book_path
    told_lines = outline.told_in(path)
    told_sheets = sorted([(told[1], number, told) for number, told in told_lines if told[0] == "sheet"],
                         key=lambda row: row[0])
    ranks = {None: 0}
    sheets = []
    for label, number, (_, _, name, relationship, hidden) in told_sheets:
        if relationship not in contents:
            lost.append((path, number))
        parts = {**contents.get(relationship, {}), "hidden": hidden}
        sheets.append(Sheet(name, **parts))
        ranks[label] = len(sheets)
    active = 1
    for number, told in told_lines:
        if told[0] in ("active", "name") and told[1] not in ranks:
            lost.append((path, number))
        elif told[0] == "active":
            active = ranks[told[1]]
    names = _names_told(told_lines, ranks, sheets)
    return Book(sheets if sheets != [] else [Sheet(LONE_SHEET)], active=active, names=names)


def _names_told(told_lines, ranks, sheets):
    """The defined names in their order, of which the scopes are told by the numbers of sheets."""
    names = []
    for _, told in told_lines:
        if told[0] == "name" and told[1] in ranks:
            rank = ranks[told[1]]
            scope = None if rank == 0 else sheets[rank - 1].name
            names.append((rank, told[2], (scope, told[2], told[3])))
    return [row[2] for row in sorted(names, key=lambda row: (row[0], row[1]))]
