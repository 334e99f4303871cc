"""The least counts of the lines of books, and papers that show them without searching."""

from gridfile.checks import is_integer, is_one_of, is_tuple_of
from gridfile.errors import BadPaper, BadSheet
from gridfile.firsts import each_once, styles_in, texts_in
from gridfile.model import Sheet, check_book
from gridfile.offsets import form_of
from gridfile.places import is_place, is_rectangle
from gridfile.runs import check_matching, fewest_lines, greatest_matching, setting_runs
from gridfile.tables import PART_SORTS
from gridfile.values import PLAIN, is_short_string, is_style, is_style_part

BOOK_SORTS = ("strings", "styles", "format", "font", "fill", "border", "align")
SHEET_SORTS = ("columns", "rows", "cells", "formulas", "merges", "links")


def formula_cells(sheet):
    """The list of the formula cells of a sheet, ascending."""
    if not isinstance(sheet, Sheet):
        raise BadSheet(sheet)
    return [(place, form_of(tree, place)) for place, _, tree, _ in sheet.cells if tree is not None]


def counts_of(book):
    """The list of the triples (sort, sheet number or 0, count) of the least counts of a book."""
    check_book(book)
    counts = [(sort, 0, len(_things_of_book(book, sort))) for sort in BOOK_SORTS]
    for at, sheet in enumerate(book.sheets):
        counts.extend([(sort, at + 1, _count_of_sheet(sheet, sort)) for sort in SHEET_SORTS])
    return counts


def paper_of(book):
    """A paper of all counts of a book, in their order."""
    check_book(book)
    paper = [(sort, 0, tuple(_things_of_book(book, sort))) for sort in BOOK_SORTS]
    for at, sheet in enumerate(book.sheets):
        paper.extend([(sort, at + 1, _witnesses_of_sheet(sheet, sort)) for sort in SHEET_SORTS])
    return tuple(paper)


def check_paper(book, paper):
    """The list of the triples (sort, sheet number or 0, count) that the rows of a paper show."""
    check_book(book)
    if not isinstance(paper, tuple):
        raise BadPaper(None)
    shown = []
    known = {}
    for at, row in enumerate(paper):
        if not _is_paper_row(row, len(book.sheets)) or row[:2] in known:
            raise BadPaper(at)
        known[row[:2]] = True
        count = _shown_by(book, row)
        if count is None:
            raise BadPaper(at)
        shown.append((*row[:2], count))
    return shown


def is_shown(book, paper):
    """Whether a paper is right and shows each of the counts of a book."""
    try:
        shown = check_paper(book, paper)
    except BadPaper:
        return False
    return all([count in shown for count in counts_of(book)])


def _things_of_book(book, sort):
    """The list of the different texts, styles or parts of a book, each once."""
    if sort == "strings":
        return texts_in(book)
    if sort == "styles":
        return styles_in(book)
    at = PART_SORTS.index(sort)
    return each_once([style[at] for style in styles_in(book) if style[at] != PLAIN[at]])


def _things_of_sheet(sheet, sort):
    """The list of the things of a sheet of which no line can carry two; not for formulas."""
    if sort in ("columns", "rows"):
        return [run[0] for run in setting_runs(sheet.columns if sort == "columns" else sheet.rows)]
    if sort == "cells":
        return [place for place, value, _, style in sheet.cells if value is not None or style != PLAIN]
    if sort == "merges":
        return list(sheet.merges)
    return [place for place, _ in sheet.links]


def _count_of_sheet(sheet, sort):
    if sort == "formulas":
        return fewest_lines(formula_cells(sheet))
    return len(_things_of_sheet(sheet, sort))


def _witnesses_of_sheet(sheet, sort):
    if sort == "formulas":
        return greatest_matching(formula_cells(sheet))
    return tuple(_things_of_sheet(sheet, sort))


def _is_paper_row(value, many):
    """Whether a value of any kind is a row of a paper of a book with so many sheets, apart from its witnesses."""
    if not is_tuple_of(value, 3) or not isinstance(value[2], tuple):
        return False
    if is_one_of(value[0], BOOK_SORTS):
        return is_integer(value[1], 0, 0)
    return is_one_of(value[0], SHEET_SORTS) and is_integer(value[1], 1, many)


def _shown_by(book, row):
    """The count that a row of a paper shows, or None if its witnesses are wrong."""
    sort, number, witnesses = row
    if sort == "formulas":
        try:
            return check_matching(formula_cells(book.sheet_at(number)), witnesses)
        except BadPaper:
            return None
    things = _things_of_book(book, sort) if number == 0 else _things_of_sheet(book.sheet_at(number), sort)
    is_free = {thing: True for thing in things}
    for witness in witnesses:
        # Only what has the kind of such things can be looked for.
        if not _is_witness(sort, witness) or not is_free.get(witness, False):
            return None
        is_free[witness] = False
    return len(witnesses)


def _is_witness(sort, value):
    """Whether a value of any kind has the kind of the things of a sort."""
    if sort == "strings":
        return is_short_string(value)
    if sort == "styles":
        return is_style(value)
    if sort in PART_SORTS:
        return is_style_part(PART_SORTS.index(sort), value)
    if sort in ("columns", "rows"):
        return is_integer(value, 1, value)
    return is_rectangle(value) if sort == "merges" else is_place(value)
