"""Which parts of a file are read, of which kinds they are, and which lines of them are kept."""

from gridfile.keeping import Keeper
from gridfile.lines import lines_of
from gridfile.links import START, check_file, links_of
from gridfile.told import header_number, told_by


class PartReading:
    """A part as it is read, as far as it alone tells: its kept lines, and what is wrong with the others."""

    def __init__(self, kind, text, barred):
        """No relationship may lead to the barred path, if it is not None."""
        self.kind = kind
        self.lines = lines_of(text)
        # Pairs (number, what the line tells), the header aside.
        self.told = []
        # Triples (number, code, other line).
        self.wrong = []
        header = None if self.lines[0] is None else header_number(kind, self.lines[0])
        if header != len(self.lines) - 1:
            self.wrong.append((1, "count", None))
        self._take_lines(0 if header is None else 1, Keeper(kind, barred))

    def _take_lines(self, start, keeper):
        for at in range(start, len(self.lines)):
            line = self.lines[at]
            told = None if line is None else told_by(self.kind, line)
            refusal = ("line", None) if told is None else keeper.take(at + 1, told)
            if refusal is None:
                self.told.append((at + 1, told))
            else:
                self.wrong.append((at + 1, *refusal))


class Outline:
    """The parts of a file that are read, by their paths, in the order in which they are reached."""

    def __init__(self, file):
        check_file(file)
        self.found = {}
        # Complaints (path, line, code, other line).
        self.wrong = []
        self.book_path = None
        self.strings_path = None
        self.styles_path = None
        # The paths to which the relationships of the type sheet lead, also missing ones, by their numbers.
        self.sheet_paths = {}
        if START in file:
            self._read_start(file)
        else:
            self.wrong.append((START, 0, "part", None))
        self.wrong.extend([(path, 0, "alone", None) for path in file if path not in self.found])

    def told_in(self, path):
        """The list of the pairs (number, what the line tells) of the kept lines of a part, or of none for None."""
        return self.found[path].told if path in self.found else []

    def complaints_of_lines(self):
        """The list of all complaints but those about what is lost."""
        return self.wrong + [(path, *refusal) for path, part in self.found.items() for refusal in part.wrong]

    def _read(self, file, path, kind):
        self.found[path] = PartReading(kind, file[path], self.book_path)

    def _read_start(self, file):
        self._read(file, START, "links")
        told_lines = self.told_in(START)
        for number, (_, _, path) in told_lines:
            if self._is_there(file, path, START, number):
                self.book_path = path
                self._read(file, path, "book")
                if links_of(path) in file:
                    self._read_inner(file, links_of(path))

    def _read_inner(self, file, inner):
        """Reads the relationships of the book and the parts to which they lead."""
        self._read(file, inner, "parts")
        told_lines = self.told_in(inner)
        for number, (sort, label, path) in told_lines:
            if sort == "sheet":
                self.sheet_paths[label] = path
            if self._is_there(file, path, inner, number):
                self._read(file, path, sort)
                self._read_more(file, sort, path)

    def _read_more(self, file, sort, path):
        if sort == "strings":
            self.strings_path = path
        elif sort == "styles":
            self.styles_path = path
        elif links_of(path) in file:
            self._read(file, links_of(path), "outer")

    def _is_there(self, file, path, from_path, number):
        """Whether the part is there to which a line leads."""
        if path not in file:
            self.wrong.append((from_path, number, "part", None))
        return path in file
