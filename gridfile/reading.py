"""Reading files: it never fails, and each line that does not fit is reported."""

from gridfile.checks import is_one_of
from gridfile.errors import BadLine, BadWord
from gridfile.gathering import book_and_complaints
from gridfile.keeping import do_disagree
from gridfile.lines import is_line
from gridfile.outline import Outline, PartReading
from gridfile.told import header_number, told_by
from gridfile.values import same

CODES = ("line", "again", "lost", "off", "ring", "full", "part", "alone", "count")
KINDS = ("links", "book", "parts", "strings", "styles", "sheet", "outer")


def read(file):
    """The book that a file gives."""
    return Reading(file).book


def complaints(file):
    """The list of the complaints (path, line, code, other line) about a file."""
    return list(Reading(file).complaints)


def is_clean(file):
    """Whether there are no complaints about a file."""
    return Reading(file).complaints == ()


class Reading:
    """A file that was read."""

    def __init__(self, file):
        outline = Outline(file)
        self._book, found = book_and_complaints(outline)
        placed = [(path, line, CODES.index(code), other) for path, line, code, other in found]
        placed = sorted(placed, key=lambda row: (row[0], row[1], row[2]))
        self._complaints = tuple([(path, line, CODES[rank], other) for path, line, rank, other in placed])
        self._kept = tuple(sorted([(path, told[0]) for path, part in outline.found.items() for told in part.told]))
        self._kinds = tuple(sorted([(path, part.kind) for path, part in outline.found.items()]))

    @property
    def book(self):
        """The book."""
        return self._book

    @property
    def complaints(self):
        """The tuple of the complaints, in their order."""
        return self._complaints

    @property
    def kept(self):
        """The ascending tuple of the pairs (path, number) of the kept lines, headers aside."""
        return self._kept

    @property
    def kinds(self):
        """The ascending tuple of the pairs (path, kind) of the parts that are read."""
        return self._kinds


def word_of(kind, line):
    """The word of the sort of a line, or None for a line of no sort of this kind."""
    _check_kind(kind)
    _check_line(line)
    if header_number(kind, line) is not None:
        return "header"
    told = told_by(kind, line)
    return None if told is None else told[0]


def disagree(kind, one, other):
    """Whether two lines of a part of this kind disagree."""
    _check_kind(kind)
    for line in (one, other):
        _check_line(line)
        if told_by(kind, line) is None:
            raise BadLine(line)
    return do_disagree(kind, told_by(kind, one), told_by(kind, other))


def is_greatest(kind, text, kept):
    """Whether these are the numbers of the kept lines of a part with this text, as far as the part alone tells."""
    _check_kind(kind)
    return same(kept, tuple([told[0] for told in PartReading(kind, text, None).told]))


def _check_kind(value):
    if not is_one_of(value, KINDS):
        raise BadWord(value)


def _check_line(value):
    if not is_line(value):
        raise BadLine(value)
