"""Damaged files: the things of books, and which lines of a canonical file carry them."""

from gridfile.canonical import broken_in
from gridfile.carrying import carriers_in
from gridfile.checks import is_integer, is_row, is_tuple_of
from gridfile.errors import BadFile, BadThings, NoLine
from gridfile.gathering import book_and_complaints
from gridfile.links import check_file
from gridfile.model import check_book
from gridfile.outline import Outline
from gridfile.things import book_without, is_among, things_in

DAMAGED_LINE = "?"


def things_of(book):
    """The list of the things of a book, in their order."""
    check_book(book)
    return things_in(book)


def taken(book, things):
    """The book without these things; what is no thing of the book is passed over."""
    check_book(book)
    if not is_row(things):
        raise BadThings(things)
    return book_without(book, things)


def damaged(file, spots):
    """A new file with a line of no kind in the place of each of these lines."""
    check_file(file)
    hit = _checked_spots(_counts_of_lines(file), spots)
    return {path: "\n".join([DAMAGED_LINE if (path, at + 1) in hit else row for at, row in enumerate(text.split("\n"))])
            for path, text in file.items()}


def without_lines(file, spots):
    """A new file without these lines, and without the parts of which no line is left."""
    check_file(file)
    hit = _checked_spots(_counts_of_lines(file), spots)
    left = {}
    for path, text in file.items():
        rows = [row for at, row in enumerate(text.split("\n")) if (path, at + 1) not in hit]
        if rows != []:
            left[path] = "\n".join(rows)
    return left


class Carriers:
    """A canonical file, and which of its lines carry which things of its book."""

    def __init__(self, file):
        outline = Outline(file)
        self._book, found = book_and_complaints(outline)
        if broken_in(outline, found) != []:
            raise BadFile(None)
        self._counts = _counts_of_lines(file)
        self._things = {thing: thing for thing in things_in(self._book)}
        self._carriers_of = carriers_in(outline)
        # What each line carries; the things come in their order, so they stand in it.
        self._carried_by = {}
        for thing in self._things:
            for spot in self._carriers_of[thing]:
                self._carried_by.setdefault(spot, []).append(thing)

    @property
    def book(self):
        """The book of the file."""
        return self._book

    def carried(self, path, number):
        """The list of the things that a line carries, in their order."""
        _check_spot(self._counts, path, number)
        return list(self._carried_by.get((path, number), []))

    def carriers(self, thing):
        """The ascending list of the lines (path, number) that carry a thing, [] for what is no thing of the book."""
        return list(self._carriers_of[thing]) if is_among(self._things, thing) else []

    def loss(self, spots):
        """The list of the things that these lines carry together, in their order."""
        gone = {}
        for spot in _checked_spots(self._counts, spots):
            for thing in self._carried_by.get(spot, []):
                gone[thing] = True
        return [thing for thing in self._things if thing in gone]

    def weights(self):
        """The list of the triples (path, number, how many things) of all lines, the greatest first."""
        rows = [(path, at + 1, len(self._carried_by.get((path, at + 1), [])))
                for path, many in self._counts.items() for at in range(many)]
        return sorted(rows, key=lambda row: (-row[2], row[0], row[1]))


class Damage(Carriers):
    """A canonical file that is damaged line by line."""

    def __init__(self, file):
        super().__init__(file)
        self._hit = {}
        self._gone = {}

    @property
    def spots(self):
        """The ascending tuple of the lines (path, number) that were hit."""
        return tuple(sorted(self._hit))

    def hit(self, path, number):
        """Damages a line more: the list of the things that go with it and were there until now."""
        things = [thing for thing in self.carried(path, number) if thing not in self._gone]
        if (path, number) in self._hit:
            raise NoLine(path, number)
        self._hit[(path, number)] = True
        for thing in things:
            self._gone[thing] = True
        return things

    def left(self):
        """The book that is left."""
        return book_without(self.book, list(self._gone))


def _counts_of_lines(file):
    """How many lines each part has, by the paths."""
    return {path: text.count("\n") + 1 for path, text in file.items()}


def _check_spot(counts, path, number):
    """Raises NoLine for what is no line of a file, of which the numbers of the lines are given."""
    if not isinstance(path, str) or path not in counts or not is_integer(number, 1, counts[path]):
        raise NoLine(path, number)


def _checked_spots(counts, spots):
    """The lines of a row of pairs, as keys of a dict."""
    if not is_row(spots):
        raise NoLine(None, None)
    found = {}
    for spot in spots:
        if not is_tuple_of(spot, 2):
            raise NoLine(None, None)
        _check_spot(counts, spot[0], spot[1])
        found[spot] = True
    return found
