"""Files brought up to date: what stands in them keeps its lines and numbers, and what is new comes behind."""

from gridfile.firsts import styles_in, targets_in, texts_in
from gridfile.gathering import book_and_complaints, styles_told
from gridfile.lines import lines_text
from gridfile.links import MOST_NUMBERED, links_of, relationship_line
from gridfile.model import with_right_parts
from gridfile.outline import Outline
from gridfile.tables import PART_SORTS
from gridfile.telling import (book_lines, part_lines_of, sheet_lines, string_lines, style_lines, target_lines,
                              with_header)
from gridfile.values import PLAIN
from gridfile.writing import write


class Saved:
    """A file as it was saved; it never changes."""

    def __init__(self, file):
        self.outline = Outline(file)
        self.parts_by_path = dict(file)
        self.read_book, found = book_and_complaints(self.outline)
        self.has_complaints = found != []
        # The pairs (relationship, path) of the sheets, by their names.
        self.leads = {}
        if found == []:
            for _, told in self.outline.told_in(self.outline.book_path):
                if told[0] == "sheet":
                    self.leads[told[2]] = (told[3], self.outline.sheet_paths[told[3]])


class Numbering:
    """The numbers of the things of a table, behind which new things get the next ones."""

    def __init__(self, pairs):
        """Pairs are those of a number and a thing; the least number of a thing is meant."""
        self.numbers = {}
        self.last = 0
        self.new = []
        for number, thing in sorted(pairs, key=lambda pair: pair[0]):
            self.numbers.setdefault(thing, number)
            self.last = number
        # How many numbers there were; new things are numbered behind them.
        self.before = self.last

    def grow(self, thing):
        """The number of a thing, which gets the next one if it has none."""
        if thing not in self.numbers:
            self.last += 1
            self.numbers[thing] = self.last
            self.new.append(thing)
        return self.numbers[thing]


def changed_paths(one, other):
    """The ascending tuple of the paths at which two files do not have the same text."""
    return tuple(sorted([path for path in {**one, **other} if one.get(path) != other.get(path)]))


def updated_file(saved, book, origins):
    """The file of a book that keeps what it can of a saved one.

    For the name of each sheet of the book, origins has the name that it has in the saved file, or None.
    """
    if not saved.has_complaints and saved.read_book.is_same(book):
        return dict(saved.parts_by_path)
    if saved.leads == {}:
        return write(book)
    update = Update(saved, book, origins)
    return write(book) if update.greatest() > MOST_NUMBERED else update.new_file()


def origins_of(saved_names, saved_edits, edits):
    """For the name of each sheet behind the edits the name that it had behind the saved edits, None for new ones."""
    same = 0
    while same < min(len(saved_edits), len(edits)) and saved_edits[same] == edits[same]:
        same += 1
    origins = {name: name for name in saved_names}
    gone = []
    for edit in _each_alone(saved_edits[same:])[::-1]:
        _follow(origins, gone, _turned_back(edit))
    for edit in _each_alone(edits[same:]):
        _follow(origins, gone, edit)
    return origins


def _each_alone(edits):
    """The list of the edits, those that are done together one by one."""
    return [inner for edit in edits for inner in (edit[1] if edit[0] == "all" else (edit,))]


def _turned_back(edit):
    """An edit that gives the sheets back the names that they had before."""
    if edit[0] == "rename":
        return ("rename", edit[2], edit[1])
    if edit[0] in ("add", "remove"):
        return ("remove" if edit[0] == "add" else "add", edit[1])
    return edit


def _follow(origins, gone, edit):
    """Follows the names of the sheets; gone are the pairs (name, origin) of those removed, the last one last."""
    if edit[0] == "rename":
        origins[edit[2]] = origins.pop(edit[1])
    elif edit[0] == "remove":
        gone.append((edit[1], origins.pop(edit[1])))
    elif edit[0] == "add":
        found = [at for at, (name, origin) in enumerate(gone) if name == edit[1] and origin is not None]
        origins[edit[1]] = gone.pop(found[-1])[1] if found != [] else None


class GrownTables:
    """The tables of a file, grown by the texts and styles of a book."""

    def __init__(self, outline, book):
        self.text_numbers = Numbering([told[1:] for _, told in outline.told_in(outline.strings_path)])
        for text in texts_in(book):
            self.text_numbers.grow(text)
        told_lines = [told for _, told in outline.told_in(outline.styles_path)]
        self.part_numbers = [Numbering([told[1:] for told in told_lines if told[0] == sort]) for sort in PART_SORTS]
        self.style_numbers = Numbering(list(styles_told(outline, []).items()))
        self.new_rows = []
        for style in styles_in(book):
            if style not in self.style_numbers.numbers:
                self.new_rows.append(tuple([self._number_of_part(at, part) for at, part in enumerate(style)]))
                self.style_numbers.grow(style)

    def greatest(self):
        """The greatest number that the tables have."""
        return max([table.last for table in (self.text_numbers, *self.part_numbers, self.style_numbers)])

    def new_string_lines(self):
        """The lines of the new texts."""
        return string_lines(self.text_numbers.new, self.text_numbers.before)

    def new_style_lines(self):
        """The lines of the new parts of styles, and of the new style rows behind them."""
        lines = []
        for sort, numbering in zip(PART_SORTS, self.part_numbers):
            lines.extend(part_lines_of(sort, numbering.new, numbering.before))
        return lines + style_lines(self.new_rows, self.style_numbers.before)

    def _number_of_part(self, at, part):
        return 0 if part == PLAIN[at] else self.part_numbers[at].grow(part)


class Update:
    """What must be written so that a clean file with sheet lines reads as another book."""

    def __init__(self, saved, book, origins):
        self._saved = saved
        self._book = book
        self._old_names = [origins[sheet.name] for sheet in book.sheets]
        self._tables = GrownTables(saved.outline, book)
        self._targets = [self._number_targets(sheet, name) for sheet, name in zip(book.sheets, self._old_names)]
        # The relationships of the book that are new: triples (number, type, path).
        self._leads = []
        self._taken = dict(saved.parts_by_path)
        outline = saved.outline
        self._last = max([told[1] for _, told in outline.told_in(links_of(outline.book_path))])
        self._strings_path = self._path_of_table("strings", outline.strings_path, self._tables.new_string_lines())
        self._styles_path = self._path_of_table("styles", outline.styles_path, self._tables.new_style_lines())
        self._spots = [self._new_lead("sheet", "sheets") if name is None else saved.leads[name]
                       for name in self._old_names]

    def greatest(self):
        """The greatest number that the file would get."""
        return max([self._last, self._tables.greatest(), *[numbering.last for numbering in self._targets]])

    def new_file(self):
        """The file brought up to date."""
        file = dict(self._saved.parts_by_path)
        gone = [spot for name, spot in self._saved.leads.items() if name not in self._old_names]
        for _, path in gone:
            del file[path]
            file.pop(links_of(path), None)
        self._write_relationships(file, [relationship for relationship, _ in gone])
        _write_behind(file, self._strings_path, "strings", self._tables.new_string_lines())
        _write_behind(file, self._styles_path, "styles", self._tables.new_style_lines())
        texts, styles = self._tables.text_numbers.numbers, self._tables.style_numbers.numbers
        for sheet, name, (_, path), targets in zip(self._book.sheets, self._old_names, self._spots, self._targets):
            if not self._is_unchanged(sheet, name):
                lines = sheet_lines(sheet, texts, styles, targets.numbers)
                file[path] = lines_text(with_header("sheet", lines))
                _write_behind(file, links_of(path), "links", target_lines(targets.new, targets.before))
        self._write_book(file)
        return file

    def _number_targets(self, sheet, name):
        outline = self._saved.outline
        told_lines = [] if name is None else outline.told_in(links_of(self._saved.leads[name][1]))
        numbering = Numbering([told[1:] for _, told in told_lines])
        for target in targets_in(sheet):
            numbering.grow(target)
        return numbering

    def _path_of_table(self, sort, path, new_lines):
        """The path of a table, which is None while there is nothing in it."""
        return path if path is not None or new_lines == [] else self._new_lead(sort, sort)[1]

    def _new_lead(self, sort, start):
        """The pair (number, path) of a new relationship of the book, which leads to a path that is free."""
        path = start
        number = 0
        while path in self._taken or number == 0 and sort == "sheet":
            number += 1
            path = f"{start}/{number}"
        self._taken[path] = ""
        self._last += 1
        self._leads.append((self._last, sort, path))
        return self._last, path

    def _is_unchanged(self, sheet, name):
        """Whether the part of a sheet says the same as in the file; its name and hidden stand in another part."""
        if name is None:
            return False
        old = self._saved.read_book.sheet_named(name)
        return with_right_parts(old, name=sheet.name, hidden=sheet.hidden).is_same(sheet)

    def _write_relationships(self, file, gone):
        outline = self._saved.outline
        inner = links_of(outline.book_path)
        if gone != [] or self._leads != []:
            rows = file[inner].split("\n")
            kept = [rows[number - 1] for number, told in outline.told_in(inner)
                    if told[0] != "sheet" or told[1] not in gone]
            kept.extend([lines_text([relationship_line(*lead)]) for lead in self._leads])
            file[inner] = "\n".join([f"links {len(kept)}", *kept])

    def _write_book(self, file):
        old, new = self._saved.read_book, self._book
        relationships = [relationship for relationship, _ in self._spots]
        told = [(sheet.name, sheet.hidden, self._saved.leads[sheet.name][0]) for sheet in old.sheets]
        wanted = [(sheet.name, sheet.hidden, relationships[at]) for at, sheet in enumerate(new.sheets)]
        if told != wanted or (old.active, old.names) != (new.active, new.names):
            lines = with_header("book", book_lines(new, relationships))
            file[self._saved.outline.book_path] = lines_text(lines)


def _write_behind(file, path, word, lines):
    """Writes lines behind those that a part has, if there are any to write."""
    if lines != []:
        rows = file[path].split("\n")[1:] if path in file else []
        file[path] = "\n".join([f"{word} {len(rows) + len(lines)}", *rows, lines_text(lines)])
