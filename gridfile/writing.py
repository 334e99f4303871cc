"""Writing books: the canonical file of each."""

from gridfile.errors import NoPart
from gridfile.firsts import numbered, styles_in, targets_in, texts_in
from gridfile.lines import lines_text
from gridfile.links import START, links_of, relationship_line
from gridfile.model import check_book
from gridfile.tables import PART_SORTS, StyleTable, TextTable
from gridfile.telling import (book_lines, part_lines_of, sheet_lines, string_lines, style_lines, target_lines,
                              with_header)

BOOK_PATH = "book"


def write(book):
    """The written file of a book."""
    return {path: lines_text(lines) for path, lines in _lines_by_path(book).items()}


def paths_of(book):
    """The tuple of the paths of the written file of a book, in their order."""
    return tuple(_lines_by_path(book))


def part_lines(book, path):
    """The list of the lines of a part of the written file, header first."""
    lines = _lines_by_path(book)
    if not isinstance(path, str) or path not in lines:
        raise NoPart(path)
    return lines[path]


def string_table(book):
    """The string table of the written file of a book."""
    check_book(book)
    return TextTable().grown(texts_in(book))


def style_table(book):
    """The style table of the written file of a book."""
    check_book(book)
    return StyleTable().grown(styles_in(book))


def _lines_by_path(book):
    """The lines of all parts of the written file, by their paths, in the order of the parts."""
    check_book(book)
    texts = texts_in(book)
    styles = styles_in(book)
    sheet_paths = [f"sheets/{at + 1}" for at in range(len(book.sheets))]
    tables = [word for word, things in (("strings", texts), ("styles", styles)) if things != []]
    inner = [*[(word, word) for word in tables], *[("sheet", path) for path in sheet_paths]]
    lines = [relationship_line(at + 1, sort, path) for at, (sort, path) in enumerate(inner)]
    found = {START: with_header("links", [relationship_line(1, "book", BOOK_PATH)]),
             BOOK_PATH: with_header("book", book_lines(book, [len(tables) + at + 1 for at in range(len(sheet_paths))])),
             links_of(BOOK_PATH): with_header("links", lines)}
    if texts != []:
        found["strings"] = with_header("strings", string_lines(texts, 0))
    if styles != []:
        found["styles"] = with_header("styles", _lines_of_styles(style_table(book)))
    text_numbers, style_numbers = numbered(texts, 0), numbered(styles, 0)
    for path, sheet in zip(sheet_paths, book.sheets):
        targets = targets_in(sheet)
        found[path] = with_header("sheet", sheet_lines(sheet, text_numbers, style_numbers, numbered(targets, 0)))
        if targets != []:
            found[links_of(path)] = with_header("links", target_lines(targets, 0))
    return found


def _lines_of_styles(table):
    """The lines of a style table without gaps."""
    lines = []
    for sort, parts in zip(PART_SORTS, table.parts):
        lines.extend(part_lines_of(sort, parts, 0))
    return lines + style_lines(table.rows, 0)
