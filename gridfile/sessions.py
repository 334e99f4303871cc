"""Sessions, in which edits are done, undone and done again, and blocks, which keep all of their edits or none."""

from gridfile.checks import is_integer
from gridfile.doing import done
from gridfile.edits import check_edit
from gridfile.errors import NothingToUndo
from gridfile.model import check_book


class Session:
    """A book, the edits that were done, and those that were undone."""

    def __init__(self, book):
        check_book(book)
        # The books behind 0, 1, 2, .. of the edits done.
        self._books = (book,)
        self._done = ()
        self._undone = ()

    @property
    def book(self):
        """The book behind all edits done."""
        return self._books[-1]

    @property
    def done_edits(self):
        """The tuple of the edits done."""
        return self._done

    @property
    def undone_edits(self):
        """The tuple of the edits undone, the next one to be done again first."""
        return self._undone

    def do(self, edit):
        """Does an edit, which forgets those that were undone."""
        check_edit(edit)
        self._books = (*self._books, done(self.book, edit))
        self._done = (*self._done, edit)
        self._undone = ()

    def undo(self, many=1):
        """Undoes the last edits."""
        if not is_integer(many, 1, len(self._done)):
            raise NothingToUndo(len(self._done))
        left = len(self._done) - many
        self._books = self._books[:left + 1]
        self._undone = (*self._done[left:], *self._undone)
        self._done = self._done[:left]

    def redo(self, many=1):
        """Does the edits again that were undone last."""
        if not is_integer(many, 1, len(self._undone)):
            raise NothingToUndo(len(self._undone))
        for edit in self._undone[:many]:
            self._books = (*self._books, done(self.book, edit))
        self._done = (*self._done, *self._undone[:many])
        self._undone = self._undone[many:]

    def copy(self):
        """An independent session with the same edits."""
        made = Session(self.book)
        made._take_edits(self)
        return made

    def each_book(self):
        """Yields the books behind 0, 1, 2, .. of the edits done."""
        for book in self._books:
            yield book

    def _take_edits(self, other):
        """Takes the edits of another session."""
        self._books = other._books
        self._done = other._done
        self._undone = other._undone


class Block:
    """A context that gives a session, and leaves it as it was if an error leaves the context."""

    def __init__(self, session):
        self._session = session
        self._books = None
        self._done = None
        self._undone = None

    def __enter__(self):
        session = self._session
        self._books = session._books
        self._done = session._done
        self._undone = session._undone
        return session

    def __exit__(self, kind, value, trace):
        session = self._session
        if kind is not None:
            session._books = self._books
            session._done = self._done
            session._undone = self._undone


def do_together(session, *edits):
    """Does edits in a block; how many were done."""
    with Block(session):
        for edit in edits:
            session.do(edit)
    return len(edits)


def in_block(session, many, *edits):
    """Undoes so many edits and does others, in a block; how many were done."""
    with Block(session):
        session.undo(many)
        for edit in edits:
            session.do(edit)
    return len(edits)
