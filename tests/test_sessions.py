"""[68] and gridfile/sessions.py: sessions and blocks."""

import random
import unittest

from gridfile.canonical import is_canonical
from gridfile.counts import is_shown, paper_of
from gridfile.edits import do
from gridfile.errors import Absent, BadBook, BadEdit, NoSheet, NothingToUndo, Refused, StillActive
from gridfile.model import Book, Sheet
from gridfile.reading import complaints, read
from gridfile.sessions import Block, Session, do_together, in_block
from gridfile.stores import Store
from gridfile.values import PLAIN
from gridfile.writing import write
from support import ODD_VALUES, caught, random_book, random_edit, remade

BAD_NUMBERS = [value for value in ODD_VALUES if value != 1 or isinstance(value, (bool, float))]


def edit(value):
    return ("cell", "Data", (1, 1), value, None, PLAIN)


def a_session(*values):
    session = Session(Book([Sheet("Data")]))
    for value in values:
        session.do(edit(value))
    return session


def value_of(session):
    return session.book.sheets[0].cell_at((1, 1))[0]


def state_of(session):
    return session.book, session.done_edits, session.undone_edits, list(session.each_book())


class Sessions(unittest.TestCase):
    def test_do_undo_redo(self):
        session = a_session(1, 2, 3)
        self.assertEqual((value_of(session), session.done_edits, session.undone_edits), (3, (edit(1), edit(2), edit(3)), ()))
        self.assertIsNone(session.undo())
        self.assertEqual((value_of(session), session.done_edits, session.undone_edits), (2, (edit(1), edit(2)), (edit(3),)))
        session.undo(many=2)
        self.assertEqual((value_of(session), session.done_edits, session.undone_edits), (None, (), (edit(1), edit(2), edit(3))))
        self.assertIsNone(session.redo())
        self.assertEqual((value_of(session), session.done_edits, session.undone_edits), (1, (edit(1),), (edit(2), edit(3))))
        session.redo(many=2)
        self.assertEqual((value_of(session), session.done_edits, session.undone_edits), (3, (edit(1), edit(2), edit(3)), ()))
        session.undo(3)
        session.redo(3)
        self.assertEqual(value_of(session), 3)

    def test_a_new_edit_forgets_those_that_were_undone(self):
        session = a_session(1, 2, 3)
        session.undo(2)
        self.assertIsNone(session.do(edit=edit(4)))
        self.assertEqual((value_of(session), session.done_edits, session.undone_edits), (4, (edit(1), edit(4)), ()))
        self.assertEqual(caught(NothingToUndo, session.redo).done, 0)

    def test_a_refused_edit_changes_nothing(self):
        session = a_session(1, 2)
        session.undo()
        before = state_of(session)
        self.assertEqual(caught(StillActive, session.do, ("remove", "Data")).given, "Data")
        self.assertEqual(caught(NoSheet, session.do, ("all", (edit(5), ("hide", "x", True)))).given, "x")
        for value in (*ODD_VALUES, ("hide", "x")):
            self.assertEqual(caught(BadEdit, session.do, value).given, value)
        self.assertEqual(state_of(session), before)

    def test_numbers_out_of_their_bounds(self):
        session = a_session(1, 2, 3)
        session.undo()
        before = state_of(session)
        for many in (0, -1, 3, 4, *BAD_NUMBERS):
            self.assertEqual(caught(NothingToUndo, session.undo, many).done, 2)
        for many in (0, -1, 2, *BAD_NUMBERS):
            self.assertEqual(caught(NothingToUndo, session.redo, many).done, 1)
        self.assertEqual(state_of(session), before)
        self.assertEqual(caught(NothingToUndo, a_session().undo).done, 0)
        self.assertEqual(caught(NothingToUndo, a_session().redo).done, 0)

    def test_wrong_books(self):
        for value in ODD_VALUES:
            self.assertEqual(caught(BadBook, Session, value).given, value)
        self.assertEqual(len(Session(book=Book([Sheet("a")])).book.sheets), 1)

    def test_copies_go_their_own_way(self):
        session = a_session(1, 2, 3)
        session.undo()
        other = session.copy()
        self.assertEqual(state_of(other), state_of(session))
        other.do(edit(9))
        self.assertEqual((value_of(session), session.undone_edits, value_of(other), other.undone_edits), (2, (edit(3),), 9, ()))
        session.redo()
        session.undo(3)
        self.assertEqual((value_of(session), value_of(other), len(other.done_edits)), (None, 9, 3))

    def test_each_book(self):
        session = a_session(1, 2, 3)
        session.undo()
        self.assertEqual([book.sheets[0].cell_at((1, 1))[0] for book in session.each_book()], [None, 1, 2])
        self.assertEqual(len(list(a_session().each_book())), 1)
        books = session.each_book()
        next(books)
        session.undo(2)
        self.assertEqual(len(list(session.each_book())), 1)

    def test_random_sessions(self):
        chance = random.Random(18)
        for _ in range(40):
            session = Session(random_book(chance))
            books, done, undone = [session.book], [], []
            for _ in range(12):
                drawn = chance.random()
                if drawn < 0.6:
                    one = random_edit(chance, session.book)
                    try:
                        session.do(one)
                    except (Refused, Absent):
                        continue
                    books.append(do(books[-1], one))
                    done.append(one)
                    undone = []
                elif drawn < 0.8 and done:
                    many = chance.randint(1, len(done))
                    session.undo(many)
                    undone = done[-many:] + undone
                    del books[-many:], done[-many:]
                elif undone:
                    session.redo()
                    books.append(do(books[-1], undone[0]))
                    done.append(undone.pop(0))
                self.assertEqual((session.done_edits, session.undone_edits), (tuple(done), tuple(undone)))
                told = list(session.each_book())
                self.assertEqual(len(told), len(books))
                self.assertTrue(all(one.is_same(other) for one, other in zip(told, books)))
                self.assertTrue(session.book.is_same(books[-1]) and remade(session.book).is_same(session.book))
            file = write(session.book)
            self.assertEqual((complaints(file), is_canonical(file)), ([], True))
            self.assertTrue(read(file).is_same(session.book) and is_shown(session.book, paper_of(session.book)))


class Blocks(unittest.TestCase):
    def test_all_edits_are_kept(self):
        session = a_session(1)
        with Block(session) as given:
            self.assertIs(given, session)
            given.do(edit(2))
            given.undo(2)
            given.do(edit(3))
        self.assertEqual((value_of(session), session.done_edits), (3, (edit(3),)))

    def test_none_are_kept_if_an_error_leaves_the_block(self):
        for error in (ValueError, KeyError, ZeroDivisionError, KeyboardInterrupt):
            session = a_session(1, 2, 3)
            session.undo()
            before = state_of(session)
            with self.assertRaises(error):
                with Block(session=session):
                    session.do(edit(9))
                    session.undo(3)
                    session.do(edit(8))
                    raise error
            self.assertEqual(state_of(session), before)
        with self.assertRaises(NothingToUndo):
            with Block(session):
                session.do(edit(9))
                session.undo(99)
        self.assertEqual(state_of(session), before)

    def test_an_error_that_is_caught_within_leaves_nothing(self):
        session = a_session(1)
        with Block(session):
            session.do(edit(2))
            with self.assertRaises(NoSheet):
                session.do(("activate", "x"))
            session.do(edit(3))
        self.assertEqual(len(session.done_edits), 3)

    def test_blocks_in_blocks(self):
        session = a_session(1)
        with Block(session):
            session.do(edit(2))
            with self.assertRaises(ValueError):
                with Block(session):
                    session.do(edit(3))
                    raise ValueError
            self.assertEqual(value_of(session), 2)
        self.assertEqual(session.done_edits, (edit(1), edit(2)))
        with self.assertRaises(ValueError):
            with Block(session):
                with Block(session):
                    session.do(edit(3))
                raise ValueError
        self.assertEqual(session.done_edits, (edit(1), edit(2)))

    def test_do_together(self):
        session = a_session(1)
        self.assertEqual(do_together(session, edit(2), edit(3)), 2)
        self.assertEqual((value_of(session), len(session.done_edits)), (3, 3))
        self.assertEqual(do_together(session), 0)
        before = state_of(session)
        self.assertEqual(caught(NoSheet, do_together, session, edit(4), ("activate", "x"), 5).given, "x")
        self.assertEqual(caught(BadEdit, do_together, session, edit(4), 5).given, 5)
        self.assertEqual(state_of(session), before)

    def test_in_block(self):
        session = a_session(1, 2, 3)
        self.assertEqual(in_block(session, 2, edit(7)), 1)
        self.assertEqual((value_of(session), session.done_edits, session.undone_edits), (7, (edit(1), edit(7)), ()))
        self.assertEqual(in_block(session, 1), 0)
        self.assertEqual((session.done_edits, session.undone_edits), ((edit(1),), (edit(7),)))
        before = state_of(session)
        for many in (0, 2, *BAD_NUMBERS):
            self.assertEqual(caught(NothingToUndo, in_block, session, many, edit(9)).done, 1)
        self.assertEqual(caught(StillActive, in_block, session, 1, edit(9), ("remove", "Data")).given, "Data")
        self.assertEqual(state_of(session), before)

    def test_blocks_of_stores(self):
        store = Store.of(Book([Sheet("Data")]))
        store.do(edit(1))
        store.save()
        with self.assertRaises(NoSheet):
            do_together(store, ("rename", "Data", "Other"), ("activate", "Data"))
        self.assertEqual((store.path_of("Data"), store.is_saved(), value_of(store)), ("sheets/1", True, 1))


if __name__ == "__main__":
    unittest.main()
