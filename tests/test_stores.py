"""[69] to [71] and gridfile/stores.py: stores write just the paths that must change, and numbers never change."""

import random
import unittest

from gridfile.canonical import breaches, is_canonical
from gridfile.errors import Absent, BadBook, BadEdit, BadFile, NoSheet, Refused
from gridfile.formulas import read_formula
from gridfile.model import Book, Sheet
from gridfile.names import with_name
from gridfile.reading import Reading, complaints, read
from gridfile.sessions import Block, Session
from gridfile.stores import Store
from gridfile.values import PLAIN
from gridfile.writing import write
from support import ODD_VALUES, caught, mutated, random_book, random_edit

BOLD = ("", ("Plain", 10, True, False), None, (0, 0, 0, 0), ("general", False))
RED = ("", ("Plain", 10, True, False), 255, (0, 0, 0, 0), ("general", False))
BLUE = ("0.0", ("Plain", 10, False, False), 7, (1, 1, 1, 1), ("general", False))


def cell(sheet, row, column, value=None, formula=None, style=PLAIN):
    return ("cell", sheet, (row, column), value, None if formula is None else read_formula(formula), style)


def a_store():
    data = Sheet("Data", cells=[((1, 1), "x", None, BOLD), ((2, 1), None, read_formula("=More!A1"), PLAIN)], links=[((1, 1), "t")])
    book = Book([data, Sheet("More", cells=[((1, 1), "y", None, PLAIN)]), Sheet("Last")], active=3)
    return Store.of(with_name(book, None, "rate", read_formula("=Data!$A$1")))


# A clean file that is not canonical: other paths, numbers with gaps, lines in other orders, things that nothing uses.
LOOSE = {
    "links": "links 1\nr7 book b",
    "b": 'book 3\nsheet 9 "More" r20\nsheet 4 "Data" r30\nactive 4',
    "b.links": "links 5\nr30 sheet sheets/1\nr5 strings t\nr40 sheet unused\nr20 sheet s\nr6 styles styles/1",
    "t": 'strings 4\n50 "x"\n7 "x"\n3 "q"\n9 "y"',
    "styles/1": 'styles 5\nstyle 8 0 3 0 0 0\nfont 3 "Plain" 10 bold\nfont 2 "Plain" 10 bold\nstyle 2 0 2 0 0 0\nfill 9 1',
    "sheets/1": 'sheet 4\nlink A1 r9\ncell A1 s50 8\nformula A2:A2 "= ( More!R[-1]C )"\ncell B1 s7 2',
    "sheets/1.links": 'links 3\nr9 outer "t"\nr4 outer "t"\nr2 outer "u"',
    "s": "sheet 1\ncell A1 s9 0",
    "unused": "sheet 1\ncell A1 s3 0",
}


class Stores(unittest.TestCase):
    def check(self, store, changed, parts=(), is_least=True):
        """Saves the store: just these paths change, and these parts have these texts."""
        old = store.file
        self.assertEqual(store.would_change(), changed)
        self.assertIs(store.is_saved(), changed == ())
        self.assertEqual(store.file, old)
        self.assertEqual(store.save(), changed)
        new = store.file
        self.assertEqual(tuple(sorted(path for path in {**old, **new} if old.get(path) != new.get(path))), changed)
        self.assertEqual(complaints(new), [])
        self.assertTrue(read(new).is_same(store.book))
        self.assertEqual((store.save(), store.would_change(), store.is_saved()), ((), (), True))
        for path, text in dict(parts).items():
            self.assertEqual(new.get(path), text, path)
        # No changed part could have kept its text.
        for path in changed:
            if is_least and path in old and path in new:
                file = {**new, path: old[path]}
                self.assertFalse(complaints(file) == [] and read(file).is_same(store.book), path)


class Saving(Stores):
    def test_at_once(self):
        for file in (a_store().file, LOOSE, {"links": "links 0"}):
            store = Store(file=file)
            self.check(store, ())
            self.assertEqual((store.file, store.complaints), (file, ()))
            self.assertTrue(store.book.is_same(read(file)))

    def test_one_sheet(self):
        store = a_store()
        store.do(cell("More", 1, 1, 5))
        self.check(store, ("sheets/2",), {"sheets/2": "sheet 1\ncell A1 5 0"})
        # Its text keeps its number, although nothing uses it now.
        store.do(cell("More", 1, 1, "y"))
        self.check(store, ("sheets/2",), {"sheets/2": "sheet 1\ncell A1 s2 0"})

    def test_tables_grow_at_the_end(self):
        store = a_store()
        for edit in (cell("More", 1, 1, "z"), cell("Data", 9, 9, "w", None, BLUE), cell("Data", 1, 1, "x", None, RED), ("setting", "More", "rows", 1, None, False, BLUE), ("link", "Data", (9, 9), "u"),
                     ("link", "More", (9, 9), "u")):
            store.do(edit)
        self.check(store, ("sheets/1", "sheets/1.links", "sheets/2", "sheets/2.links", "strings", "styles"), {
            "strings": 'strings 4\n1 "x"\n2 "y"\n3 "w"\n4 "z"', "sheets/1.links": 'links 2\nr1 outer "t"\nr2 outer "u"', "sheets/2.links": 'links 1\nr1 outer "u"',
            "styles": 'styles 8\nfont 1 "Plain" 10 bold\nstyle 1 0 1 0 0 0\nformat 1 "0.0"\nfill 1 255\nfill 2 7\nborder 1 1 1 1 1\nstyle 2 0 1 1 0 0\nstyle 3 1 0 2 1 0',
            "sheets/1": 'sheet 5\ncell A1 s1 2\ncell I9 s3 3\nformula A2:A2 "=More!R[-1]C"\nlink A1 r1\nlink I9 r2', "sheets/2": "sheet 3\nrows 1-1 - 3\ncell A1 s4 0\nlink I9 r1"})

    def test_changed_and_changed_back(self):
        store = a_store()
        store.do(cell("More", 1, 1, "z", None, RED))
        store.save()
        first = store.file["sheets/2"]
        store.do(cell("More", 1, 1, "other", None, BLUE))
        self.check(store, ("sheets/2", "strings", "styles"))
        store.undo()
        self.check(store, ("sheets/2",), {"sheets/2": first})
        store.redo()
        self.check(store, ("sheets/2",))
        store.undo(2)
        self.check(store, ("sheets/2",), {"sheets/2": "sheet 1\ncell A1 s2 0"})

    def test_behind_undo_nothing_changes(self):
        store = a_store()
        for edit in (cell("More", 1, 1, "z"), ("rename", "More", "Other"), ("add", "New", None), ("remove", "Data")):
            store.do(edit)
        store.undo(4)
        self.check(store, ())

    def test_the_book_part(self):
        for edits in ([("activate", "Data")], [("hide", "More", True)], [("name", None, "rate", None)], [("name", "Last", "x", ("number", 1))], [("order", "Last", None)], [("rename", "Last", "End")]):
            store = a_store()
            for edit in edits:
                store.do(edit)
            self.check(store, ("book",))
        store = a_store()
        store.do(("order", "Last", None))
        self.check(store, ("book",), {"book": 'book 4\nsheet 1 "Last" r5\nsheet 2 "Data" r3\nsheet 3 "More" r4\nname - rate "=Data!$A$1"'})

    def test_a_renamed_sheet_keeps_its_path_and_relationship(self):
        store = a_store()
        store.do(("rename", "More", "Other"))
        self.assertEqual(store.path_of("Other"), "sheets/2")
        self.check(store, ("book", "sheets/1"), {"book": 'book 5\nactive 3\nsheet 1 "Data" r3\nsheet 2 "Other" r4\nsheet 3 "Last" r5\nname - rate "=Data!$A$1"',
                                                 "sheets/1": 'sheet 3\ncell A1 s1 1\nformula A2:A2 "=Other!R[-1]C"\nlink A1 r1'})
        for edit in (("rename", "Data", "x"), ("rename", "Other", "Data"), ("rename", "x", "More")):
            store.do(edit)
        self.assertEqual((store.path_of("Data"), store.path_of("More")), ("sheets/2", "sheets/1"))
        self.check(store, ("book", "sheets/1"))
        self.assertEqual((store.path_of("Data"), store.path_of("More")), ("sheets/2", "sheets/1"))

    def test_added_sheets(self):
        store = a_store()
        for edit in (("add", "b", "Data"), ("add", "a", None), cell("a", 1, 1, "x"), ("link", "b", (1, 1), "t")):
            store.do(edit)
        self.assertEqual((store.path_of("a"), store.path_of("b"), store.path_of("Last")), (None, None, "sheets/3"))
        self.check(store, ("book", "book.links", "sheets/4", "sheets/5", "sheets/5.links"), {
            "book.links": "links 7\nr1 strings strings\nr2 styles styles\nr3 sheet sheets/1\nr4 sheet sheets/2\nr5 sheet sheets/3\nr6 sheet sheets/4\nr7 sheet sheets/5",
            "book": 'book 7\nactive 5\nsheet 1 "a" r6\nsheet 2 "Data" r3\nsheet 3 "b" r7\nsheet 4 "More" r4\nsheet 5 "Last" r5\nname - rate "=Data!$A$1"', "sheets/4": "sheet 1\ncell A1 s1 0",
            "sheets/5.links": 'links 1\nr1 outer "t"'})
        self.assertEqual((store.path_of("a"), store.path_of("b")), ("sheets/4", "sheets/5"))

    def test_removed_sheets(self):
        store = a_store()
        store.do(("remove", "Data"))
        self.check(store, ("book", "book.links", "sheets/1", "sheets/1.links"), {
            "book.links": "links 4\nr1 strings strings\nr2 styles styles\nr4 sheet sheets/2\nr5 sheet sheets/3", "sheets/1": None, "sheets/1.links": None, "strings": 'strings 2\n1 "x"\n2 "y"'})
        # Its path is free now, and its number comes not again while a greater one is there.
        store.do(("add", "New", "Last"))
        self.check(store, ("book", "book.links", "sheets/1"), {"book.links": "links 5\nr1 strings strings\nr2 styles styles\nr4 sheet sheets/2\nr5 sheet sheets/3\nr6 sheet sheets/1"})

    def test_a_path_of_the_old_file_is_not_free(self):
        store = a_store()
        store.do(("remove", "More"))
        store.do(("add", "New", None))
        self.check(store, ("book", "book.links", "sheets/2", "sheets/4"),
                   {"book.links": "links 5\nr1 strings strings\nr2 styles styles\nr3 sheet sheets/1\nr5 sheet sheets/3\nr6 sheet sheets/4", "sheets/2": None})

    def test_removed_and_added_again_under_the_same_name(self):
        store = a_store()
        store.do(("remove", "More"))
        store.do(("add", "More", "Last"))
        self.assertEqual(store.path_of("More"), "sheets/2")
        self.check(store, ("book", "sheets/2"), {"sheets/2": "sheet 0", "book": 'book 5\nactive 2\nsheet 1 "Data" r3\nsheet 2 "Last" r5\nsheet 3 "More" r4\nname - rate "=Data!$A$1"'})

    def test_the_name_that_it_had_then(self):
        store = Store.of(Book([Sheet("Data"), Sheet("More")]))
        for edit in (("rename", "More", "Other"), ("remove", "Other"), ("add", "More", None), ("add", "Other", None)):
            store.do(edit)
        self.assertEqual((store.path_of("Other"), store.path_of("More")), ("sheets/2", None))
        store.do(("rename", "More", "Third"))
        store.do(("remove", "Other"))
        store.do(("rename", "Third", "Other"))
        self.assertIsNone(store.path_of("Other"))
        store.undo(2)
        self.assertEqual(store.path_of("Other"), "sheets/2")
        self.check(store, ("book", "book.links", "sheets/3"))

    def test_removed_before_it_was_saved(self):
        store = a_store()
        store.do(("remove", "More"))
        store.save()
        store.do(("add", "More", None))
        self.assertIsNone(store.path_of("More"))
        self.check(store, ("book", "book.links", "sheets/2"), {"book.links": "links 5\nr1 strings strings\nr2 styles styles\nr3 sheet sheets/1\nr5 sheet sheets/3\nr6 sheet sheets/2"})

    def test_undo_behind_saving(self):
        store = a_store()
        store.do(("add", "New", None))
        store.save()
        store.undo()
        self.assertRaises(NoSheet, store.path_of, "New")
        store.redo()
        self.assertEqual(store.path_of("New"), "sheets/4")
        self.check(store, ())
        store.undo()
        store.do(("add", "New", "Last"))
        self.assertEqual(store.path_of("New"), "sheets/4")
        self.check(store, ("book",))
        store.undo()
        self.check(store, ("book", "book.links", "sheets/4"))
        store.redo()
        self.assertIsNone(store.path_of("New"))
        store.undo()
        store.do(("all", (("rename", "More", "x"), ("rename", "Data", "More"))))
        self.assertEqual((store.path_of("x"), store.path_of("More")), ("sheets/2", "sheets/1"))

    def test_new_tables(self):
        store = Store.of(Book([Sheet("Data")]))
        store.do(cell("Data", 1, 1, "x", None, BOLD))
        store.do(("add", "New", None))
        self.check(store, ("book", "book.links", "sheets/1", "sheets/2", "strings", "styles"), {
            "book.links": "links 4\nr1 sheet sheets/1\nr2 strings strings\nr3 styles styles\nr4 sheet sheets/2", "strings": 'strings 1\n1 "x"',
            "styles": 'styles 2\nfont 1 "Plain" 10 bold\nstyle 1 0 1 0 0 0', "sheets/1": "sheet 1\ncell A1 s1 1"})
        self.assertEqual(breaches_of(store), {2, 4, 6})

    def test_paths_of_tables_that_are_taken(self):
        file = {"links": "links 1\nr1 book styles", "styles": 'book 2\nsheet 1 "a" r1\nsheet 2 "b" r2', "styles.links": "links 2\nr1 sheet strings\nr2 sheet strings/1", "strings": "sheet 0", "strings/1": "sheet 0"}
        store = Store(file)
        store.do(cell("a", 1, 1, "x", None, BOLD))
        store.do(("remove", "b"))
        self.check(store, ("strings", "strings/1", "strings/2", "styles", "styles.links", "styles/1"),
                   {"styles.links": "links 3\nr1 sheet strings\nr3 strings strings/2\nr4 styles styles/1", "strings/1": None})


def breaches_of(store):
    """The numbers of the rules that the file of a store breaks."""
    return {rule for _, _, rule in breaches(store.file)}


class LooseFiles(Stores):
    def test_what_is_the_same_keeps_its_text(self):
        store = Store(LOOSE)
        self.assertEqual((complaints(LOOSE), store.path_of("Data"), store.path_of("More")), ([], "sheets/1", "s"))
        store.do(cell("More", 2, 1, "x", None, BOLD))
        self.check(store, ("s",), {"s": "sheet 2\ncell A1 s9 0\ncell A2 s7 2"})
        store.do(("activate", "More"))
        self.check(store, ("b",), {"b": 'book 3\nactive 2\nsheet 1 "Data" r30\nsheet 2 "More" r20'})

    def test_tables_with_gaps_and_lines_in_any_order(self):
        store = Store(LOOSE)
        for edit in (cell("More", 2, 1, "z", None, BLUE), cell("More", 3, 1, "q", None, RED), ("link", "Data", (2, 2), "v"), ("link", "Data", (3, 3), "u")):
            store.do(edit)
        self.check(store, ("s", "sheets/1", "sheets/1.links", "styles/1", "t"), {
            "t": 'strings 5\n50 "x"\n7 "x"\n3 "q"\n9 "y"\n51 "z"', "sheets/1.links": 'links 4\nr9 outer "t"\nr4 outer "t"\nr2 outer "u"\nr10 outer "v"',
            "styles/1": LOOSE["styles/1"].replace("styles 5", "styles 11") + '\nformat 1 "0.0"\nfill 10 7\nfill 11 255\nborder 1 1 1 1 1\nstyle 9 1 0 10 1 0\nstyle 10 0 2 11 0 0',
            "s": "sheet 3\ncell A1 s9 0\ncell A2 s51 9\ncell A3 s3 10",
            "sheets/1": 'sheet 6\ncell A1 s7 2\ncell B1 s7 2\nformula A2:A2 "=More!R[-1]C"\nlink A1 r4\nlink B2 r10\nlink C3 r2'})

    def test_sheets_that_come_and_go(self):
        store = Store(LOOSE)
        store.do(("add", "New", None))
        store.do(("remove", "More"))
        self.check(store, ("b", "b.links", "s", "sheets/2"), {
            "b": 'book 3\nactive 2\nsheet 1 "New" r41\nsheet 2 "Data" r30', "unused": LOOSE["unused"], "s": None,
            "b.links": "links 5\nr30 sheet sheets/1\nr5 strings t\nr40 sheet unused\nr6 styles styles/1\nr41 sheet sheets/2"})

    def test_compact(self):
        store = Store(LOOSE)
        self.assertEqual(store.compact(), tuple(sorted({*LOOSE, *write(store.book)} - {path for path in LOOSE if write(store.book).get(path) == LOOSE[path]})))
        self.assertEqual(store.file, write(read(LOOSE)))
        self.assertTrue(is_canonical(store.file))
        self.assertEqual((store.compact(), store.is_saved(), store.path_of("More")), ((), True, "sheets/2"))
        store = a_store()
        store.do(cell("More", 1, 1, "q"))
        store.save()
        store.do(cell("More", 1, 1, "y"))
        self.assertEqual(store.compact(), ("sheets/2", "strings"))
        self.assertEqual(store.file, a_store().file)

    def test_numbers_that_would_be_too_great(self):
        for change in ({"t": 'strings 2\n9999999 "x"\n3 "y"', "sheets/1": "sheet 0", "s": "sheet 0", "unused": "sheet 0"}, {"styles/1": "styles 1\nfill 9999999 1", "sheets/1": "sheet 0"},
                       {"sheets/1.links": 'links 1\nr9999999 outer "x"', "sheets/1": "sheet 0"}):
            file = {**LOOSE, **change}
            self.assertEqual(complaints(file), [])
            store = Store(file)
            store.do(cell("Data", 5, 5, "new", None, RED))
            store.do(("link", "Data", (5, 5), "new"))
            self.assertEqual(store.save(), store_changes(file, store))
            self.assertEqual(store.file, write(store.book))
        file = {**LOOSE, "b.links": LOOSE["b.links"].replace("r40", "r9999999")}
        store = Store(file)
        store.do(cell("Data", 5, 5, 7))
        self.check(store, ("sheets/1",))
        store.do(("add", "New", None))
        before = store.file
        self.assertEqual(store.save(), store_changes(before, store))
        self.assertEqual(store.file, write(store.book))

    def test_the_greatest_number_itself(self):
        file = {**LOOSE, "t": LOOSE["t"].replace("50", "9999998"), "sheets/1": LOOSE["sheets/1"].replace("s50", "s9999998")}
        store = Store(file)
        store.do(cell("More", 2, 1, "new"))
        self.check(store, ("s", "t"), {"s": "sheet 2\ncell A1 s9 0\ncell A2 s9999999 0"})


def store_changes(old, store):
    new = store.file
    return tuple(sorted(path for path in {**old, **new} if old.get(path) != new.get(path)))


class OtherFiles(Stores):
    def test_a_file_with_complaints_is_written_anew(self):
        file = {**a_store().file, "x": "", "sheets/3": "sheet 1\n?"}
        store = Store(file)
        self.assertEqual(store.complaints, (("sheets/3", 2, "line", None), ("x", 0, "alone", None)))
        self.assertEqual((store.path_of("Data"), store.is_saved(), store.would_change()), (None, False, ("sheets/3", "x")))
        self.check(store, ("sheets/3", "x"))
        self.assertEqual((store.file, store.path_of("Data")), (a_store().file, "sheets/1"))
        self.assertEqual(store.complaints, (("sheets/3", 2, "line", None), ("x", 0, "alone", None)))
        self.check(Store({}), ("book", "book.links", "links", "sheets/1"))

    def test_a_clean_file_without_sheets(self):
        for file in ({"links": "links 0"}, {"links": "links 1\nr9 book b", "b": 'book 1\nname - x "=1"', "b.links": "links 1\nr1 sheet s", "s": "sheet 0"}):
            store = Store(file)
            self.assertIsNone(store.path_of("Sheet1"))
            self.check(store, ())
            store.do(("hide", "Sheet1", True))
            self.assertEqual(store.save(), store_changes(file, store))
            self.assertEqual((store.file, store.path_of("Sheet1")), (write(store.book), "sheets/1"))

    def test_wrong_arguments(self):
        for value in ODD_VALUES:
            if not isinstance(value, dict):
                self.assertIsNone(caught(BadFile, Store, value).given)
            self.assertEqual(caught(BadBook, Store.of, value).given, value)
            self.assertEqual(caught(NoSheet, a_store().path_of, value).given, value)
            self.assertEqual(caught(BadEdit, a_store().do, value).given, value)
        self.assertEqual(caught(BadFile, Store, {"links": "", 5: ""}).given, 5)
        self.assertEqual(a_store().path_of(sheet="Data"), "sheets/1")
        self.assertEqual(len(Store.of(book=Book([Sheet("a")])).file), 4)

    def test_a_store_is_a_session(self):
        store = a_store()
        self.assertIsInstance(store, Session)
        store.do(("hide", "Data", True))
        self.assertEqual((store.done_edits, store.undone_edits, len(list(store.each_book()))), ((("hide", "Data", True),), (), 2))
        with self.assertRaises(ValueError):
            with Block(store):
                store.do(("hide", "More", True))
                raise ValueError
        self.check(store, ("book",))

    def test_saving_within_a_block_that_an_error_leaves(self):
        store = a_store()
        with self.assertRaises(ValueError):
            with Block(store):
                store.do(("rename", "More", "Other"))
                store.do(("add", "New", None))
                store.save()
                raise ValueError
        self.assertEqual((store.path_of("More"), store.is_saved()), ("sheets/2", False))
        self.check(store, ("book", "book.links", "sheets/1", "sheets/4"))

    def test_copies_go_their_own_way(self):
        store = a_store()
        store.do(("add", "New", None))
        store.save()
        store.do(("rename", "More", "Other"))
        other = store.copy()
        self.assertEqual((other.file, other.path_of("Other"), other.path_of("New"), other.would_change()), (store.file, "sheets/2", "sheets/4", store.would_change()))
        other.do(cell("Other", 1, 1, "q"))
        other.save()
        store.undo(2)
        self.assertEqual((len(store.book.sheets), len(other.book.sheets), store.file == other.file), (3, 4, False))
        self.check(store, ("book", "book.links", "sheets/4"))
        self.check(other, ())

    def test_new_dicts(self):
        file = dict(LOOSE)
        store = Store(file)
        file.clear()
        store.file.clear()
        self.assertEqual(store.file, LOOSE)

    def test_the_example(self):
        store = Store.of(Book((Sheet("Data"), Sheet("More"))))
        store.do(("cell", "More", (1, 1), "hello", None, PLAIN))
        self.assertEqual((store.save(), store.save()), (("book.links", "sheets/2", "strings"), ()))
        store.undo()
        self.assertEqual((store.save(), store.file["sheets/2"]), (("sheets/2",), "sheet 0"))


class Facts(Stores):
    def test_random_stores(self):
        chance = random.Random(19)
        for _ in range(60):
            file = write(random_book(chance))
            for _ in range(chance.choice((0, 0, 1, 3))):
                file = mutated(chance, file)
            store = Store(file)
            self.assertEqual(store.complaints, tuple(complaints(file)))
            for _ in range(10):
                drawn = chance.random()
                if drawn < 0.6:
                    try:
                        store.do(random_edit(chance, store.book))
                    except (Refused, Absent):
                        pass
                elif drawn < 0.7 and store.done_edits:
                    store.undo(chance.randint(1, len(store.done_edits)))
                elif drawn < 0.8 and store.undone_edits:
                    store.redo(chance.randint(1, len(store.undone_edits)))
                else:
                    self.save(store)
            store.compact()
            self.assertEqual(store.file, write(store.book))

    def save(self, store):
        old = store.file
        reading = Reading(old)
        paths = {sheet.name: store.path_of(sheet.name) for sheet in store.book.sheets}
        book_path = [path for path, kind in reading.kinds if kind == "book"]
        is_kept = not reading.complaints and bool(book_path) and "\nsheet " in old[book_path[0]]
        self.check(store, store.would_change(), (), is_kept)
        if not is_kept:
            self.assertIn(store.file, (old, write(store.book)))
            return
        for name, path in paths.items():
            self.assertIn(store.path_of(name), (path,) if path is not None else [store.path_of(name)])
        for path, kind in reading.kinds:
            if kind in ("strings", "styles", "outer") and path in store.file:
                # All lines stay, in their order, and new ones stand behind them.
                rows = old[path].split("\n")[1:]
                self.assertEqual(store.file[path].split("\n")[1:len(rows) + 1], rows)
            if kind in ("strings", "styles"):
                self.assertIn(path, store.file)


if __name__ == "__main__":
    unittest.main()
