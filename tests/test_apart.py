"""[65] to [67] and gridfile/apart.py: edits that were made apart are brought together, or conflict."""

import itertools
import random
import unittest

from gridfile.apart import carried, conflict, together, together_rows
from gridfile.edits import do, do_all, is_edit
from gridfile.errors import Absent, BadBook, BadEdit, Conflict, Covered, NoSheet, Refused, StillActive
from gridfile.formulas import read_formula
from gridfile.model import Book, Sheet
from gridfile.names import with_name
from gridfile.values import PLAIN
from support import ODD_VALUES, caught, random_book, random_edit, remade

NOTHING = ("all", ())
BOLD = ("", ("Plain", 10, True, False), None, (0, 0, 0, 0), ("general", False))


def tree(text):
    return None if text is None else read_formula(text)


def cell(sheet, row, column, value=None, formula=None, style=PLAIN):
    return ("cell", sheet, (row, column), value, tree(formula), style)


def name(scope, word, formula):
    return ("name", scope, word, tree(formula))


def a_book():
    data = Sheet("Data", merges=[(20, 1, 21, 2), (30, 1, 32, 1)], cells=[((1, 1), 1, None, PLAIN)])
    book = Book([data, Sheet("More"), Sheet("Last"), Sheet("End")], active=4)
    return with_name(book, None, "rate", read_formula("=Data!$A$1"))


class Together(unittest.TestCase):
    def check(self, e, f, wanted_e=None, wanted_f=None, book=None):
        """What each edit becomes behind the other one, itself for None."""
        book = a_book() if book is None else book
        pair = (e if wanted_e is None else wanted_e, f if wanted_f is None else wanted_f)
        self.assertEqual(together(book=book, e=e, f=f), pair)
        self.assertEqual(carried(book=book, e=e, f=f), pair[0])
        self.assertIsNone(conflict(book=book, e=e, f=f))
        one, other = do_all(book, e, pair[1]), do_all(book, f, pair[0])
        self.assertTrue(one.is_same(other))
        self.assertTrue(remade(one).is_same(one))

    def both(self, e, f, wanted_e=None, wanted_f=None, book=None):
        self.check(e, f, wanted_e, wanted_f, book)
        self.check(f, e, wanted_f, wanted_e, book)

    def test_edits_of_other_things_stay(self):
        edits = [cell("Data", 1, 1, 5), cell("Data", 2, 1, 5), cell("More", 1, 1, 5, "=Data!A1"), ("link", "Data", (1, 1), "x"), ("merge", "Data", (40, 1, 41, 1)), ("split", "Data", (20, 1, 21, 2)),
                 ("setting", "Data", "rows", 1, 5, False, PLAIN), ("setting", "Data", "columns", 1, 5, False, PLAIN), ("freeze", "Data", 1, 1), ("hide", "Data", True), ("activate", "More"), ("hide", "More", True),
                 ("add", "New", "Data"), ("order", "Last", None), name(None, "x", "=1"), name("Data", "x", "=1"), name(None, "rate", None)]
        for e, f in itertools.combinations(edits, 2):
            self.both(e, f)

    def test_places_and_numbers_behind_an_insertion(self):
        insert = ("insert", "Data", "rows", 5, 3)
        for row, moved in ((1, 1), (4, 4), (5, 8), (6, 9)):
            self.both(cell("Data", row, 2, 5), insert, cell("Data", moved, 2, 5))
            self.both(("link", "Data", (row, 2), "x"), insert, ("link", "Data", (moved, 2), "x"))
            self.both(("setting", "Data", "rows", row, 5, False, PLAIN), insert, ("setting", "Data", "rows", moved, 5, False, PLAIN))
            self.both(("setting", "Data", "columns", row, 5, False, PLAIN), insert)
            self.both(("merge", "Data", (row, 5, row, 6)), insert, ("merge", "Data", (moved, 5, moved, 6)))
        self.both(("merge", "Data", (4, 5, 5, 5)), insert, ("merge", "Data", (4, 5, 8, 5)))
        self.both(("split", "Data", (20, 1, 21, 2)), insert, ("split", "Data", (23, 1, 24, 2)))
        for rows, moved in ((3, 3), (4, 4), (5, 8), (9, 12)):
            self.both(("freeze", "Data", rows, 7), insert, ("freeze", "Data", moved, 7))
        self.both(("freeze", "Data", 3, 9), ("insert", "Data", "columns", 5, 3), ("freeze", "Data", 3, 12))
        self.both(cell("Data", 9, 9, 5), ("insert", "Data", "columns", 5, 3), cell("Data", 9, 12, 5))
        # Other sheets do not move.
        self.both(cell("More", 9, 9, 5), insert)
        self.both(("freeze", "More", 9, 9), insert)
        self.both(("hide", "Data", True), insert)
        self.both(("activate", "Data"), insert)
        self.both(("order", "Data", None), insert)
        self.both(("add", "New", "Data"), insert)

    def test_trees_behind_an_insertion(self):
        insert = ("insert", "Data", "rows", 5, 3)
        self.both(cell("Data", 1, 1, None, "=A5+More!A5+SUM(A4:A6)"), insert, cell("Data", 1, 1, None, "=A8+More!A5+SUM(A4:A9)"))
        self.both(cell("More", 5, 1, None, "=A5+Data!A5"), insert, cell("More", 5, 1, None, "=A5+Data!A8"))
        self.both(name(None, "x", "=Data!$A$5+More!$A$5"), insert, name(None, "x", "=Data!$A$8+More!$A$5"))
        self.both(name("Data", "x", "=$A$5"), insert, name("Data", "x", "=$A$8"))
        self.both(name("More", "x", "=$A$5"), insert)
        self.both(name(None, "rate", None), insert)

    def test_behind_a_deletion(self):
        delete = ("delete", "Data", "rows", 5, 3)
        for row, moved in ((4, 4), (8, 5), (9, 6)):
            self.both(cell("Data", row, 2, 5), delete, cell("Data", moved, 2, 5))
        for row in (5, 6, 7):
            self.both(cell("Data", row, 2, 5), delete, NOTHING)
            self.both(("link", "Data", (row, 2), "x"), delete, NOTHING)
            self.both(("setting", "Data", "rows", row, 5, False, PLAIN), delete, NOTHING)
            self.both(("merge", "Data", (row, 5, row, 6)), delete, NOTHING)
        self.both(("merge", "Data", (4, 5, 9, 6)), delete, ("merge", "Data", (4, 5, 6, 6)))
        self.both(("merge", "Data", (7, 5, 8, 5)), delete, NOTHING)
        self.both(("merge", "Data", (7, 5, 8, 6)), delete, ("merge", "Data", (5, 5, 5, 6)))
        self.both(("split", "Data", (30, 1, 32, 1)), ("delete", "Data", "rows", 31, 2), NOTHING)
        self.both(("split", "Data", (30, 1, 32, 1)), ("delete", "Data", "rows", 31, 1), ("split", "Data", (30, 1, 31, 1)))
        self.both(("freeze", "Data", 6, 6), delete, ("freeze", "Data", 4, 6))
        self.both(cell("More", 1, 1, None, "=Data!A6+Data!A4:A8+Data!A9"), delete, cell("More", 1, 1, None, "=#REF!+Data!A4:A5+Data!A6"))
        self.both(name(None, "x", "=Data!$A$6"), delete, name(None, "x", "=#REF!"))
        self.both(cell("Data", 5, 6, None, "=B9"), ("delete", "Data", "columns", 1, 2), cell("Data", 5, 4, None, "=#REF!"))

    def test_two_insertions(self):
        for at, other, moved, moved_other in ((5, 9, 5, 11), (9, 5, 12, 5), (5, 5, 8, 7), (5, 6, 5, 8), (1, 1, 4, 3)):
            self.check(("insert", "Data", "rows", at, 2), ("insert", "Data", "rows", other, 3), ("insert", "Data", "rows", moved, 2), ("insert", "Data", "rows", moved_other, 3))
        self.both(("insert", "Data", "rows", 5, 2), ("insert", "Data", "columns", 1, 3))
        self.both(("insert", "Data", "rows", 5, 2), ("insert", "More", "rows", 1, 3))
        self.both(("insert", "Data", "rows", 5, 2), ("delete", "Data", "columns", 5, 3))

    def test_two_deletions(self):
        rows = lambda at, many: ("delete", "Data", "rows", at, many)
        self.both(rows(5, 2), rows(9, 3), rows(5, 2), rows(7, 3))
        self.both(rows(5, 2), rows(7, 3), rows(5, 2), rows(5, 3))
        self.both(rows(5, 4), rows(7, 4), rows(5, 2), rows(5, 2))
        self.both(rows(5, 9), rows(7, 2), rows(5, 7), NOTHING)
        self.both(rows(5, 3), rows(5, 3), NOTHING, NOTHING)
        self.both(rows(5, 3), rows(5, 4), NOTHING, rows(5, 1))
        self.both(rows(5, 3), rows(1, 9999), NOTHING, rows(1, 9996))
        self.both(rows(5, 3), ("delete", "More", "rows", 5, 3))
        self.both(rows(5, 3), ("delete", "Data", "columns", 5, 3))

    def test_insertions_beside_deletions(self):
        self.both(("insert", "Data", "rows", 4, 2), ("delete", "Data", "rows", 5, 3), None, ("delete", "Data", "rows", 7, 3))
        self.both(("insert", "Data", "rows", 9, 2), ("delete", "Data", "rows", 5, 3), ("insert", "Data", "rows", 6, 2), None)

    def test_up_to_the_border(self):
        insert = ("insert", "Data", "rows", 5, 1)
        self.both(("delete", "Data", "rows", 9997, 2), insert, ("delete", "Data", "rows", 9998, 2))
        self.both(("insert", "Data", "rows", 9998, 9), insert, ("insert", "Data", "rows", 9999, 9))
        self.both(cell("Data", 9998, 1, 5), insert, cell("Data", 9999, 1, 5))
        self.both(("setting", "Data", "rows", 9998, 5, False, PLAIN), insert, ("setting", "Data", "rows", 9999, 5, False, PLAIN))
        self.both(("delete", "Data", "columns", 701, 1), ("insert", "Data", "columns", 1, 1), ("delete", "Data", "columns", 702, 1))
        self.both(("delete", "Data", "rows", 9999, 1), ("insert", "Data", "columns", 1, 1))

    def test_behind_rename(self):
        rename = ("rename", "Data", "New")
        for edit, moved in ((cell("Data", 1, 2, 5, "=A1+Data!A1+More!A1"), cell("New", 1, 2, 5, "=A1+New!A1+More!A1")), (cell("More", 1, 1, None, "=Data!A1:B2"), cell("More", 1, 1, None, "=New!A1:B2")),
                            (("link", "Data", (1, 1), "Data"), ("link", "New", (1, 1), "Data")), (("merge", "Data", (1, 1, 1, 2)), ("merge", "New", (1, 1, 1, 2))),
                            (("split", "Data", (20, 1, 21, 2)), ("split", "New", (20, 1, 21, 2))), (("setting", "Data", "rows", 1, 5, False, PLAIN), ("setting", "New", "rows", 1, 5, False, PLAIN)),
                            (("freeze", "Data", 1, 1), ("freeze", "New", 1, 1)), (("hide", "Data", True), ("hide", "New", True)), (("activate", "Data"), ("activate", "New")),
                            (("insert", "Data", "rows", 1, 1), ("insert", "New", "rows", 1, 1)), (("delete", "Data", "rows", 1, 1), ("delete", "New", "rows", 1, 1)),
                            (("add", "x", "Data"), ("add", "x", "New")), (("order", "Data", "More"), ("order", "New", "More")), (("order", "More", "Data"), ("order", "More", "New")),
                            (name("Data", "x", "=$A$1+Data!$A$1"), name("New", "x", "=$A$1+New!$A$1")), (name(None, "x", "=Data!$A$1"), name(None, "x", "=New!$A$1")),
                            (name("Data", "rate", "=1"), name("New", "rate", "=1"))):
            self.both(edit, rename, moved)
        self.both(("rename", "More", "Other"), rename)
        self.both(("hide", "More", True), rename)
        self.both(cell("More", 1, 1, None, "=Data!A1"), ("rename", "Data", "Data"))
        self.both(("remove", "Data"), ("rename", "More", "Other"))

    def test_behind_remove(self):
        remove = ("remove", "Data")
        for edit in (cell("Data", 1, 1, 5), ("link", "Data", (1, 1), "x"), ("merge", "Data", (2, 1, 2, 2)), ("split", "Data", (20, 1, 21, 2)), ("setting", "Data", "rows", 1, 5, False, PLAIN),
                     ("freeze", "Data", 1, 1), ("hide", "Data", True), ("order", "Data", "More"), name("Data", "x", "=1")):
            self.both(edit, remove, NOTHING)
        for edit in (cell("More", 1, 1, None, "=Data!A1"), name(None, "x", "=Data!$A$1"), name("More", "x", "=1"), ("add", "x", "More"), ("remove", "More"), ("order", "More", None), ("hide", "More", True)):
            self.both(edit, remove)
        self.both(remove, remove, NOTHING, NOTHING)

    def test_equal_edits_of_one_thing(self):
        for edit in (cell("Data", 1, 1, True), ("link", "Data", (1, 1), "x"), ("link", "Data", (1, 1), None), ("merge", "Data", (2, 1, 2, 2)), ("split", "Data", (20, 1, 21, 2)),
                     ("setting", "Data", "rows", 1, 5, False, PLAIN), ("freeze", "Data", 1, 1), ("hide", "Data", True), ("activate", "More"), name(None, "x", "=1"), name(None, "rate", None),
                     ("order", "Data", "More"), ("rename", "Data", "New"), ("remove", "More")):
            self.both(edit, edit, NOTHING, NOTHING)

    def test_sheets_behind_the_same_one(self):
        for behind in (None, "Data", "Last"):
            self.check(("add", "x", behind), ("add", "y", behind), None, ("add", "y", "x"))
            self.check(("add", "x", behind), ("order", "More", behind), None, ("order", "More", "x"))
            self.check(("order", "More", behind), ("add", "y", behind), None, ("add", "y", "More"))
            self.check(("order", "More", behind), ("order", "End", behind), None, ("order", "End", "More"))
        self.both(("add", "x", "Data"), ("add", "y", "More"))
        self.both(("order", "Last", "Data"), ("order", "End", None))

    def test_nothing_alike_is_left_of_two_additions(self):
        self.assertEqual(conflict(a_book(), ("add", "x", None), ("add", "x", None)), "refused")


class Conflicts(unittest.TestCase):
    def check(self, word, e, f, book=None):
        book = a_book() if book is None else book
        for one, other in ((e, f), (f, e)):
            self.assertEqual(conflict(book, one, other), word)
            for call in (together, carried):
                self.assertEqual(caught(Conflict, call, book, one, other).word, word)

    def test_thing(self):
        for e, f in ((cell("Data", 1, 1, 5), cell("Data", 1, 1, 6)), (cell("Data", 1, 1, 1), cell("Data", 1, 1, True)), (cell("Data", 1, 1, 1), cell("Data", 1, 1, 1, None, BOLD)),
                     (("link", "Data", (1, 1), "x"), ("link", "Data", (1, 1), None)), (("setting", "Data", "rows", 1, 5, False, PLAIN), ("setting", "Data", "rows", 1, 5, True, PLAIN)),
                     (("freeze", "Data", 1, 1), ("freeze", "Data", 1, 2)), (("hide", "Data", True), ("hide", "Data", False)), (("activate", "Data"), ("activate", "More")),
                     (name(None, "x", "=1"), name(None, "x", "=2")), (name(None, "rate", "=1"), name(None, "rate", None)), (("order", "Data", "More"), ("order", "Data", "Last")),
                     (("rename", "Data", "x"), ("rename", "Data", "y")), (("rename", "Data", "x"), ("rename", "Data", "X"))):
            self.check("thing", e, f)

    def test_merge(self):
        merge = ("merge", "Data", (2, 2, 4, 4))
        for other in (("merge", "Data", (4, 4, 5, 5)), ("merge", "Data", (3, 3, 3, 4)), ("merge", "Data", (1, 1, 9, 9)), cell("Data", 2, 3, 5), cell("Data", 4, 4, None, "=1"), cell("Data", 3, 2, False),
                      ("link", "Data", (4, 2), "x")):
            self.check("merge", merge, other)
        for other in (("merge", "Data", (5, 2, 6, 4)), ("merge", "More", (2, 2, 4, 4)), cell("Data", 2, 2, 5, "=1"), cell("Data", 2, 3, None, None, BOLD), ("link", "Data", (2, 2), "x"),
                      ("link", "Data", (3, 3), None), cell("More", 3, 3, 5), cell("Data", 5, 4, 5)):
            self.assertIsNone(conflict(a_book(), merge, other))
            self.assertIsNone(conflict(a_book(), other, merge))

    def test_touch(self):
        delete = ("delete", "Data", "rows", 5, 3)
        for at in (5, 6, 7, 8):
            self.check("touch", ("insert", "Data", "rows", at, 1), delete)
        for insert in (("insert", "Data", "rows", 4, 1), ("insert", "Data", "rows", 9, 1), ("insert", "Data", "columns", 6, 1), ("insert", "More", "rows", 6, 1)):
            self.assertIsNone(conflict(a_book(), insert, delete))

    def test_removed(self):
        remove = ("remove", "Data")
        for other in (("insert", "Data", "rows", 1, 1), ("delete", "Data", "rows", 1, 1), ("rename", "Data", "x"), ("activate", "Data"), ("add", "x", "Data"), ("order", "More", "Data")):
            self.check("removed", remove, other)

    def test_behind(self):
        order = ("order", "Data", "Last")
        for other in (("add", "x", "Data"), ("order", "More", "Data"), ("order", "Last", None), ("order", "Last", "Data")):
            self.check("behind", order, other)
        for other in (("add", "x", "More"), ("order", "More", None), ("add", "x", None), ("remove", "More"), ("rename", "Data", "x")):
            self.assertIsNone(conflict(a_book(), order, other))

    def test_name(self):
        rename = ("rename", "Data", "New")
        for other in (cell("More", 1, 1, None, "=1+New!A1"), cell("Data", 1, 1, None, "=New!A1:B2"), name(None, "x", "=New!$A$1"), name("Data", "x", "=New!$A$1")):
            self.check("name", rename, other)
        self.assertIsNone(conflict(a_book(), rename, cell("More", 1, 1, None, "=Gone!A1+Data!A1")))
        self.assertIsNone(conflict(a_book(), ("rename", "Data", "Data"), cell("More", 1, 1, None, "=Data!A1")))

    def test_refused(self):
        for e, f in ((cell("Data", 9999, 1, 5), ("insert", "Data", "rows", 5, 1)), (("setting", "Data", "columns", 702, 5, False, PLAIN), ("insert", "Data", "columns", 5, 1)),
                     (("freeze", "Data", 9999, 0), ("insert", "Data", "rows", 5, 1)), (cell("More", 1, 1, None, "=Data!A9999"), ("insert", "Data", "rows", 5, 1)),
                     (("insert", "Data", "rows", 9999, 1), ("insert", "Data", "rows", 5, 1)), (("delete", "Data", "rows", 9998, 2), ("insert", "Data", "rows", 5, 1)),
                     (("merge", "Data", (9998, 1, 9999, 1)), ("insert", "Data", "rows", 5, 1)), (("link", "Data", (1, 702), "x"), ("insert", "Data", "columns", 702, 1)),
                     (name(None, "x", "=y"), name(None, "y", "=x")), (("add", "x", None), ("add", "X", "Data")), (("add", "x", None), ("rename", "Data", "X")), (("rename", "More", "x"), ("rename", "Data", "X"))):
            self.check("refused", e, f)

    def test_refused_by_limits(self):
        book = Book([Sheet("Data", cells=[((row, 1), 1, None, PLAIN) for row in range(1, 2000)], links=[((row, 1), "x") for row in range(1, 2000)], merges=[(row, 2, row, 3) for row in range(1, 300)]),
                     *[Sheet(f"s{at}") for at in range(28)]], names=[(None, f"n_{at:03}", ("number", 1)) for at in range(199)])
        for e, f in ((cell("Data", 2000, 1, 1), cell("Data", 2001, 1, 1)), (("link", "Data", (2000, 1), "x"), ("link", "Data", (2001, 1), "x")),
                     (("merge", "Data", (300, 2, 300, 3)), ("merge", "Data", (301, 2, 301, 3))), (("add", "x", None), ("add", "y", "Data")), (name(None, "x", "=1"), name(None, "y", "=1"))):
            self.check("refused", e, f, book)

    def test_the_first_reason_is_told(self):
        self.check("thing", ("order", "Data", "Last"), ("order", "Data", "More"))
        self.check("thing", ("rename", "Data", "x"), ("rename", "Data", "y"))
        self.check("removed", ("remove", "Data"), ("order", "More", "Data"))
        # It covers a value, and leaves the grid.
        self.check("touch", ("insert", "Data", "rows", 9999, 1), ("delete", "Data", "rows", 9999, 1))

    def test_wrong_arguments_in_their_order(self):
        book = a_book()
        right, no_sheet, still_active = ("hide", "Data", True), ("hide", "x", True), ("remove", "End")
        for call in (together, carried, conflict):
            for value in ODD_VALUES:
                self.assertEqual(caught(BadBook, call, value, 5, 5).given, value)
                self.assertEqual(caught(BadEdit, call, book, value, 5).given, value)
                self.assertEqual(caught(BadEdit, call, book, no_sheet, value).given, value)
            for edit in (NOTHING, ("all", (right,))):
                self.assertEqual(caught(BadEdit, call, book, edit, 5).given, edit)
                self.assertEqual(caught(BadEdit, call, book, no_sheet, edit).given, edit)
            self.assertEqual(caught(NoSheet, call, book, no_sheet, still_active).given, "x")
            self.assertEqual(caught(StillActive, call, book, still_active, no_sheet).given, "End")
            self.assertEqual(caught(NoSheet, call, book, right, no_sheet).given, "x")
            self.assertEqual(caught(Covered, call, book, right, cell("Data", 21, 1, 5)).place, (21, 1))

    def test_touching_edits_would_not_lead_to_the_same_book(self):
        book = do(a_book(), cell("More", 1, 1, None, "=SUM(Data!A4:A6)"))
        self.check("touch", ("insert", "Data", "rows", 5, 1), ("delete", "Data", "rows", 5, 2), book)


class Facts(unittest.TestCase):
    def test_both_orders_give_the_same_book(self):
        chance = random.Random(16)
        seen, words = {}, {}
        for _ in range(150):
            book = random_book(chance)
            edits = []
            for _ in range(10):
                edit = random_edit(chance, book)
                try:
                    do(book, edit)
                    edits.append(edit)
                except (Refused, Absent):
                    pass
            for e, f in itertools.product(edits, repeat=2):
                word = conflict(book, e, f)
                # The words hold in both orders of the edits.
                self.assertEqual(conflict(book, f, e) is None, word is None)
                if word is None:
                    after_f, after_e = together(book, e, f)
                    self.assertTrue(is_edit(after_f) and is_edit(after_e))
                    one, other = do_all(book, e, after_e), do_all(book, f, after_f)
                    self.assertTrue(one.is_same(other), (e, f))
                    seen[e[0], f[0]] = True
                words[word] = True
        self.assertGreater(len(seen), 150)
        self.assertEqual(set(words) - {None}, {"thing", "merge", "touch", "removed", "behind", "name", "refused"} & set(words))
        self.assertGreaterEqual(len(words), 6)


class Rows(unittest.TestCase):
    def test_edit_by_edit(self):
        book = a_book()
        es = (("insert", "Data", "rows", 5, 1), cell("Data", 5, 1, "e"), ("rename", "More", "Other"))
        fs = (cell("Data", 5, 1, "f"), ("insert", "Data", "rows", 2, 2), ("hide", "More", True), ("add", "New", "More"))
        after_fs, after_es = together_rows(book=book, es=es, fs=fs)
        self.assertEqual(after_fs, (("insert", "Data", "rows", 7, 1), cell("Data", 7, 1, "e"), ("rename", "More", "Other")))
        self.assertEqual(after_es, (cell("Data", 6, 1, "f"), ("insert", "Data", "rows", 2, 2), ("hide", "Other", True), ("add", "New", "Other")))
        self.assertTrue(do_all(book, *es, *after_es).is_same(do_all(book, *fs, *after_fs)))

    def test_empty_rows_and_nothing(self):
        book = a_book()
        edits = (("hide", "Data", True), ("hide", "Data", False))
        self.assertEqual(together_rows(book, (), ()), ((), ()))
        self.assertEqual(together_rows(book, edits, ()), (edits, ()))
        self.assertEqual(together_rows(book, (), edits), ((), edits))
        self.assertEqual(together_rows(book, edits[:1], edits[:1]), ((NOTHING,), (NOTHING,)))
        # What nothing is left of stays nothing behind the edits that follow.
        self.assertEqual(together_rows(book, (cell("Data", 5, 1, "e"),), (("delete", "Data", "rows", 5, 1), ("insert", "Data", "rows", 1, 1))), ((NOTHING,), (("delete", "Data", "rows", 5, 1), ("insert", "Data", "rows", 1, 1))))

    def test_a_conflict_later_on(self):
        book = a_book()
        es = (("insert", "Data", "rows", 1, 1), cell("Data", 6, 1, "e"))
        self.assertEqual(caught(Conflict, together_rows, book, es, (("hide", "Data", True), cell("Data", 5, 1, "f"))).word, "thing")
        self.assertEqual(len(together_rows(book, es, (("hide", "Data", True), cell("Data", 6, 1, "f")))[0]), 2)
        # The rows of es come first: the first edit meets all of fs before the second one does.
        es = (("hide", "More", True), ("order", "Data", "More"))
        fs = (("add", "x", "Data"), ("hide", "More", False))
        self.assertEqual(caught(Conflict, together_rows, book, es, fs).word, "thing")
        self.assertEqual(caught(Conflict, together_rows, book, fs, es).word, "behind")

    def test_wrong_arguments_in_their_order(self):
        book = a_book()
        right, no_sheet = ("hide", "Data", True), ("hide", "x", True)
        for value in ODD_VALUES:
            self.assertEqual(caught(BadBook, together_rows, value, 5, 5).given, value)
            if not isinstance(value, tuple):
                self.assertEqual(caught(BadEdit, together_rows, book, value, 5).given, value)
                self.assertEqual(caught(BadEdit, together_rows, book, (), value).given, value)
            self.assertEqual(caught(BadEdit, together_rows, book, (no_sheet, value), 5).given, value)
            self.assertEqual(caught(BadEdit, together_rows, book, (right,), (no_sheet, value)).given, value)
        self.assertEqual(caught(BadEdit, together_rows, book, (right, NOTHING), ()).given, NOTHING)
        self.assertEqual(caught(NoSheet, together_rows, book, (right, no_sheet), 5).given, "x")
        self.assertEqual(caught(NoSheet, together_rows, book, (right,), (right, no_sheet)).given, "x")
        self.assertEqual(caught(NoSheet, together_rows, book, (right, ("rename", "Data", "y"), right), ()).given, "Data")

    def test_rows_that_do_not_conflict_lead_to_the_same_book(self):
        chance = random.Random(17)
        found = 0
        for _ in range(120):
            book = random_book(chance)
            rows = []
            for _ in range(2):
                here, edits = book, []
                for _ in range(chance.randint(0, 4)):
                    edit = random_edit(chance, here)
                    try:
                        here = do(here, edit)
                        edits.append(edit)
                    except (Refused, Absent):
                        pass
                rows.append(tuple(edits))
            try:
                after_fs, after_es = together_rows(book, *rows)
            except Conflict:
                continue
            found += 1
            self.assertEqual((len(after_fs), len(after_es)), (len(rows[0]), len(rows[1])))
            self.assertTrue(do_all(book, *rows[0], *after_es).is_same(do_all(book, *rows[1], *after_fs)))
        self.assertGreater(found, 60)


if __name__ == "__main__":
    unittest.main()
