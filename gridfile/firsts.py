"""The different things of books and sheets, each once, by first use, and their numbers."""

from gridfile.values import PLAIN


def texts_in(book):
    """The different texts of a book."""
    return each_once([cell[1] for sheet in book.sheets for cell in sheet.cells if isinstance(cell[1], str)])


def styles_in(book):
    """The different styles of a book but PLAIN."""
    styles = [item[3] for sheet in book.sheets for item in (*sheet.cells, *sheet.columns, *sheet.rows)]
    return each_once([style for style in styles if style != PLAIN])


def targets_in(sheet):
    """The different targets of the links of a sheet."""
    return each_once([target for _, target in sheet.links])


def each_once(things):
    """The list of the different things of a row."""
    return list({thing: True for thing in things})


def numbered(things, before):
    """The numbers of a row of different things that are numbered behind so many others."""
    return {thing: before + at + 1 for at, thing in enumerate(things)}
