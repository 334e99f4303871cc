"""Stores: sessions with a file, of which saving writes only the parts that change."""

from gridfile.reading import complaints
from gridfile.saving import Saved, changed_paths, origins_of, updated_file
from gridfile.sessions import Session
from gridfile.writing import write


class Store(Session):
    """A session with a file, which begins with the book that is read."""

    def __init__(self, file):
        saved = Saved(file)
        super().__init__(saved.read_book)
        self._saved = saved
        # The edits that were done when the file was saved.
        self._saved_edits = ()
        self._complaints = tuple(complaints(file))

    @classmethod
    def of(cls, book):
        """A store of the written file of a book."""
        return cls(write(book))

    @property
    def file(self):
        """The file, as it was saved last."""
        return dict(self._saved.parts_by_path)

    @property
    def complaints(self):
        """The tuple of the complaints about the file with which the store began."""
        return self._complaints

    def copy(self):
        """An independent store with the same file and edits."""
        made = Store(self.file)
        made._take_edits(self)
        made._saved = self._saved
        made._saved_edits = self._saved_edits
        made._complaints = self._complaints
        return made

    def is_saved(self):
        """Whether saving would change nothing."""
        return self.would_change() == ()

    def path_of(self, sheet):
        """The path of the part of a sheet, or None if the file has none."""
        self.book.number_of(sheet)
        origin = self._origins()[sheet]
        return self._saved.leads[origin][1] if origin in self._saved.leads else None

    def would_change(self):
        """The ascending tuple of the paths whose texts saving would change, make or take away."""
        return changed_paths(self._saved.parts_by_path, self._updated())

    def save(self):
        """Brings the file up to date: the ascending tuple of the paths whose texts change, come or go."""
        return self._write(self._updated())

    def compact(self):
        """Writes the canonical file: the paths as save tells them."""
        return self._write(write(self.book))

    def _origins(self):
        return origins_of([sheet.name for sheet in self._saved.read_book.sheets], self._saved_edits, self.done_edits)

    def _updated(self):
        return updated_file(self._saved, self.book, self._origins())

    def _write(self, file):
        changed = changed_paths(self._saved.parts_by_path, file)
        if changed != ():
            self._saved = Saved(file)
            self._saved_edits = self.done_edits
        return changed
