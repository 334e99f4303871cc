"""[61], [62], [64] and gridfile/edits.py: the sixteen edits, what refuses them, and what leads back."""

import random
import unittest

from gridfile.canonical import is_canonical
from gridfile.edits import WORDS, changed_things, differences, do, do_all, inverse, is_edit, remains
from gridfile.errors import (Absent, BadBook, BadEdit, Covered, Dangling, NoMerge, NoName, NoSheet, PastBorder, Refused, RingOfNames, StillActive,
                             Taken, TooMuch)
from gridfile.formulas import print_formula, read_formula
from gridfile.model import Book, Sheet
from gridfile.names import with_name
from gridfile.reading import complaints, read
from gridfile.values import PLAIN
from gridfile.writing import write
from support import ODD_VALUES, caught, random_book, random_edit, remade

BOLD = ("", ("Plain", 10, True, False), None, (0, 0, 0, 0), ("general", False))
FIXED = read_formula("=Data!$A$1")
LOCAL = read_formula("=$A$1+rate")
TREE = read_formula("=A1+1")
LONG = "x" * 32
# For each word right edits.
RIGHT = {
    "cell": [("cell", "a", (1, 1), 5, TREE, PLAIN), ("cell", "a", (9999, 702), None, None, BOLD), ("cell", "a b", (1, 1), ("error", "REF"), None, PLAIN), ("cell", "a", (1, 1), None, None, PLAIN)],
    "link": [("link", "a", (1, 1), "x"), ("link", "a", (9999, 702), None), ("link", "a", (1, 1), "x" * 200)],
    "merge": [("merge", "a", (1, 1, 1, 2)), ("merge", "a", (1, 1, 9999, 702))],
    "split": [("split", "a", (1, 1, 1, 2)), ("split", "a", (1, 1, 1, 1))],
    "setting": [("setting", "a", "rows", 9999, None, False, PLAIN), ("setting", "a", "columns", 702, 1000, True, BOLD), ("setting", "a", "rows", 1, 0, False, PLAIN)],
    "freeze": [("freeze", "a", 0, 0), ("freeze", "a", 9999, 702)], "hide": [("hide", "a", True), ("hide", "a", False)], "activate": [("activate", "a")],
    "insert": [("insert", "a", "rows", 1, 1), ("insert", "a", "rows", 9999, 9999), ("insert", "a", "columns", 702, 702)],
    "delete": [("delete", "a", "rows", 1, 9999), ("delete", "a", "rows", 9999, 1), ("delete", "a", "columns", 1, 702), ("delete", "a", "columns", 700, 3)],
    "add": [("add", "a", None), ("add", "a", "b"), ("add", "a", "a")], "remove": [("remove", "a")], "order": [("order", "a", None), ("order", "a", "A")],
    "rename": [("rename", "a", "a"), ("rename", "a", "x" * 31)],
    "name": [("name", None, "rate", FIXED), ("name", "a", "rate", LOCAL), ("name", None, "rate", None), ("name", "a", "_", None)],
    "all": [("all", ()), ("all", (("hide", "a", True),)), ("all", (("hide", "a", True), ("remove", "b")))],
}
BAD_NAMES = ["", " a", "a/b", LONG, None, 1]
BAD_PLACES = [(0, 1), (1, 703), (10000, 1), (True, 1), [1, 1], None, "A1"]
BAD_STYLES = [None, (), PLAIN[:4], ("", ("Plain", 10, 1, False), None, (0, 0, 0, 0), ("general", False))]
# For each word what is wrong in the place of each item of the first right edit.
WRONG = {
    "cell": [BAD_NAMES, BAD_PLACES, [1.0, (), "x" * 201, 10 ** 15 + 1, ("error", "X"), [1]], ["=A1", 5, False, ("lost",)[:0], ("rcell", None, (0, 0, False, False))], BAD_STYLES],
    "link": [BAD_NAMES, BAD_PLACES, ["", "x" * 201, 5, ("x",)]],
    "merge": [BAD_NAMES, [(1, 1, 1, 1), (2, 1, 1, 1), (1, 1, 2), (1, 1, 10000, 1), [1, 1, 2, 2], None]],
    "split": [BAD_NAMES, [(2, 1, 1, 1), (1, 1, 2), (1, 1, 10000, 1), [1, 1, 2, 2], None]],
    "setting": [BAD_NAMES, ["row", "Rows", None, 1], [0, 10000, None, True, 1.0], [-1, 1001, True, "5"], [None, 0, 1, "hidden"], BAD_STYLES],
    "freeze": [BAD_NAMES, [-1, 10000, None, True, (0, 0)], [-1, 703, None, True]], "hide": [BAD_NAMES, [None, 0, 1, "True"]], "activate": [BAD_NAMES],
    "insert": [BAD_NAMES, ["row", None, 1], [0, 10000, None, True], [0, 10000, None, True]],
    "delete": [BAD_NAMES, ["row", None, 1], [0, 10000, None, True, 2], [0, 10000, None, True]],
    "add": [BAD_NAMES, BAD_NAMES[:4] + [1, ()]], "remove": [BAD_NAMES], "order": [BAD_NAMES, BAD_NAMES[:4] + ["a"]], "rename": [BAD_NAMES, BAD_NAMES],
    "name": [BAD_NAMES[:4] + [1, ()], ["a1", "R", "", "a b", None, "TRUE"], [LOCAL, read_formula("=Data!A1"), "=5", 5, False, ("minus",)]],
    "all": [[None, [], ("hide", "a", True), (("all", ()),), (("hide", "a", True), ("all", ())), (None,), (("hide", "a"),), ({},)]],
}


def cell(row, column, value=None, formula=None, style=PLAIN):
    return ((row, column), value, None if formula is None else read_formula(formula), style)


def a_book():
    data = Sheet("Data", cells=[cell(1, 1, 1), cell(2, 2, 2, "=A1+More!A1")], merges=[(5, 1, 6, 2)], links=[((3, 3), "t")], columns=[(1, 5, False, PLAIN)], rows=[(4, None, True, PLAIN)], frozen=(2, 1))
    more = Sheet("More", cells=[cell(1, 1, "x"), cell(9, 1, None, "=Data!B5:B9")], hidden=True)
    book = Book([data, more, Sheet("Last")], active=2)
    for scope, word, formula in ((None, "rate", "=Data!$A$1"), ("More", "rate", "=$A$1"), (None, "tax", "=rate*2"), ("More", "sum", "=tax+rate")):
        book = with_name(book, scope, word, read_formula(formula))
    return book


class Forms(unittest.TestCase):
    def test_words(self):
        self.assertEqual(WORDS, ("cell", "link", "merge", "split", "setting", "freeze", "hide", "activate", "insert", "delete", "add", "remove", "order", "rename", "name", "all"))
        self.assertEqual(sorted(RIGHT), sorted(WORDS))

    def test_right_edits(self):
        for edits in RIGHT.values():
            for edit in edits:
                self.assertIs(is_edit(edit), True, edit)
        self.assertIs(is_edit(value=("hide", "a", True)), True)

    def test_each_item_wrong(self):
        for word, columns in WRONG.items():
            right = RIGHT[word][0]
            self.assertEqual(len(columns), len(right) - 1)
            for at, values in enumerate(columns):
                for value in [*values, object(), [right[at + 1]], {}]:
                    edit = (*right[:at + 1], value, *right[at + 2:])
                    self.assertIs(is_edit(edit), False, edit)
                    self.check_refused(edit)

    def test_names_that_are_taken_away_have_right_names_too(self):
        for edit in (*[("name", scope, "rate", None) for scope in (*BAD_NAMES[:4], 1, ())], *[("name", None, word, None) for word in ("a1", "R", "", None, 5, "TRUE")]):
            self.assertIs(is_edit(edit), False, edit)
            self.check_refused(edit)

    def check_refused(self, edit):
        book = a_book()
        for call in (do, do_all, inverse, remains):
            self.assertEqual(caught(BadEdit, call, book, edit).given, edit)
        self.assertEqual(caught(BadEdit, changed_things, edit).given, edit)

    def test_items_too_many_and_too_few(self):
        for word, edits in RIGHT.items():
            for edit in (edits[0][:-1], (*edits[0], None), (*edits[0], *edits[0]), (word,), list(edits[0]), (word.upper(), *edits[0][1:]), ((word,), *edits[0][1:]), ([word], *edits[0][1:])):
                self.assertIs(is_edit(edit), False, edit)
                self.check_refused(edit)

    def test_other_values(self):
        for value in (*ODD_VALUES, "cell", ("cells", "a"), ("",)):
            self.assertIs(is_edit(value), False)
            self.check_refused(value)

    def test_wrong_books_come_first(self):
        for value in ODD_VALUES:
            for call in (do, do_all, inverse, remains):
                self.assertEqual(caught(BadBook, call, value, 5).given, value)

    def test_edits_are_checked_before_anything_is_done(self):
        book = a_book()
        self.assertEqual(caught(BadEdit, do_all, book, ("activate", "Nowhere"), ("activate", ""), 5).given, ("activate", ""))
        self.assertEqual(caught(NoSheet, do_all, book, ("activate", "Nowhere"), ("activate", "Data")).given, "Nowhere")
        self.assertTrue(do_all(book).is_same(book))
        self.assertTrue(do(book, ("all", ())).is_same(book))

    def test_changed_things(self):
        for edit, things in ((RIGHT["cell"][0], (("cell", "a", (1, 1)),)), (RIGHT["link"][0], (("link", "a", (1, 1)),)), (RIGHT["merge"][0], (("merge", "a", (1, 1, 1, 2)),)),
                             (RIGHT["split"][0], (("merge", "a", (1, 1, 1, 2)),)), (RIGHT["setting"][1], (("setting", "a", "columns", 702),)), (RIGHT["freeze"][0], (("freeze", "a"),)),
                             (RIGHT["hide"][0], (("hide", "a"),)), (RIGHT["activate"][0], (("activate",),)), (RIGHT["name"][0], (("name", None, "rate"),)),
                             (RIGHT["name"][3], (("name", "a", "_"),))):
            self.assertEqual(changed_things(edit=edit), things)
        for word in ("insert", "delete", "add", "remove", "order", "rename", "all"):
            self.assertEqual(changed_things(RIGHT[word][-1]), ())


class Doing(unittest.TestCase):
    def test_things_of_sheets(self):
        book = a_book()
        self.assertEqual(do(book=book, edit=("cell", "Data", (7, 7), True, TREE, BOLD)).sheets[0].cell_at((7, 7)), (True, TREE, BOLD))
        self.assertEqual(len(do(book, ("cell", "Data", (1, 1), None, None, PLAIN)).sheets[0].cells), 1)
        self.assertEqual(do(book, ("link", "Data", (3, 3), "u")).sheets[0].links, (((3, 3), "u"),))
        self.assertEqual(do(book, ("link", "Data", (1, 1), "u")).sheets[0].links, (((1, 1), "u"), ((3, 3), "t")))
        self.assertEqual(do(book, ("link", "Data", (3, 3), None)).sheets[0].links, ())
        self.assertEqual(do(book, ("link", "Data", (3, 4), None)).sheets[0].links, (((3, 3), "t"),))
        self.assertEqual(do(book, ("merge", "Data", (2, 2, 2, 3))).sheets[0].merges, ((2, 2, 2, 3), (5, 1, 6, 2)))
        self.assertEqual(do(book, ("split", "Data", (5, 1, 6, 2))).sheets[0].merges, ())
        self.assertEqual(do(book, ("setting", "Data", "rows", 4, 7, False, BOLD)).sheets[0].rows, ((4, 7, False, BOLD),))
        self.assertEqual(do(book, ("setting", "Data", "columns", 3, None, True, PLAIN)).sheets[0].columns, ((1, 5, False, PLAIN), (3, None, True, PLAIN)))
        self.assertEqual(do(book, ("setting", "Data", "columns", 1, None, False, PLAIN)).sheets[0].columns, ())
        self.assertEqual(do(book, ("freeze", "Data", 0, 7)).sheets[0].frozen, (0, 7))
        self.assertEqual((do(book, ("hide", "Data", True)).sheets[0].hidden, do(book, ("hide", "More", False)).sheets[1].hidden), (True, False))

    def test_sheets(self):
        book = a_book()
        self.assertEqual(do(book, ("activate", "Last")).active, 3)
        for behind, names, active in ((None, ["New", "Data", "More", "Last"], 3), ("Data", ["Data", "New", "More", "Last"], 3), ("More", ["Data", "More", "New", "Last"], 2),
                                      ("Last", ["Data", "More", "Last", "New"], 2)):
            made = do(book, ("add", "New", behind))
            self.assertEqual(([sheet.name for sheet in made.sheets], made.active), (names, active))
            self.assertTrue(made.sheet_named("New").is_same(Sheet("New")))
        made = do(book, ("remove", "Data"))
        self.assertEqual(([sheet.name for sheet in made.sheets], made.active, len(made.names)), (["More", "Last"], 1, 4))
        made = do_all(book, ("activate", "Data"), ("remove", "More"))
        self.assertEqual(([sheet.name for sheet in made.sheets], made.active, [item[1] for item in made.names]), (["Data", "Last"], 1, ["rate", "tax"]))
        # References to it keep their text.
        self.assertEqual(print_formula(made.sheets[0].cell_at((2, 2))[1]), "=A1+More!A1")

    def test_order(self):
        book = with_name(a_book(), "Data", "z", read_formula("=1"))
        for name, behind, names, active in (("More", None, ["More", "Data", "Last"], 1), ("More", "Last", ["Data", "Last", "More"], 3), ("Data", "More", ["More", "Data", "Last"], 1),
                                            ("Data", "Last", ["More", "Last", "Data"], 1), ("Last", None, ["Last", "Data", "More"], 3), ("Last", "Data", ["Data", "Last", "More"], 3),
                                            ("Data", None, ["Data", "More", "Last"], 2), ("Last", "More", ["Data", "More", "Last"], 2)):
            made = do(book, ("order", name, behind))
            self.assertEqual(([sheet.name for sheet in made.sheets], made.active), (names, active))
            self.assertTrue(remade(made).is_same(made))
        self.assertEqual([item[0] for item in do(book, ("order", "Data", "More")).names], [None, None, "More", "More", "Data"])

    def test_rename(self):
        made = do(a_book(), ("rename", "More", "other sheet"))
        self.assertEqual([sheet.name for sheet in made.sheets], ["Data", "other sheet", "Last"])
        self.assertEqual(print_formula(made.sheets[0].cell_at((2, 2))[1]), "=A1+'other sheet'!A1")
        self.assertEqual([item[:2] for item in made.names], [(None, "rate"), (None, "tax"), ("other sheet", "rate"), ("other sheet", "sum")])
        self.assertEqual([sheet.name for sheet in do(a_book(), ("rename", "More", "MORE")).sheets], ["Data", "MORE", "Last"])
        self.assertTrue(do(a_book(), ("rename", "More", "More")).is_same(a_book()))

    def test_names(self):
        made = do(a_book(), ("name", "Last", "x", LOCAL))
        self.assertEqual(made.names[-1], ("Last", "x", LOCAL))
        self.assertEqual(do(a_book(), ("name", None, "rate", read_formula("=5"))).names[0], (None, "rate", ("number", 5)))
        self.assertEqual([item[1] for item in do(a_book(), ("name", None, "rate", None)).names], ["tax", "rate", "sum"])

    def test_insert_and_delete(self):
        made = do_all(a_book(), ("insert", "Data", "rows", 2, 3), ("delete", "Data", "columns", 1, 1))
        self.assertEqual(print_formula(made.sheets[0].cell_at((5, 1))[1]), "=#REF!+More!A1")
        self.assertEqual(print_formula(made.sheets[1].cell_at((9, 1))[1]), "=Data!A8:A12")

    def test_all_or_none(self):
        book = a_book()
        edits = (("hide", "Data", True), ("remove", "More"))
        self.assertEqual(caught(StillActive, do, book, ("all", edits)).given, "More")
        self.assertFalse(book.sheets[0].hidden)
        self.assertTrue(do(book, ("all", (edits[0], ("activate", "Last"), edits[1]))).is_same(do_all(book, edits[0], ("activate", "Last"), edits[1])))

    def test_books_behind_edits_are_ones_that_their_parts_make(self):
        chance = random.Random(11)
        for _ in range(100):
            book = random_book(chance)
            for _ in range(6):
                edit = random_edit(chance, book)
                before = remade(book)
                try:
                    made = do(book, edit)
                except (Refused, Absent):
                    made = book
                self.assertTrue(book.is_same(before))
                book = made
                self.assertTrue(remade(book).is_same(book), edit)
            file = write(book)
            self.assertEqual((complaints(file), is_canonical(file)), ([], True))
            self.assertTrue(read(file).is_same(book))


class Refusals(unittest.TestCase):
    def refused(self, kind, edit, told, book=None):
        book = a_book() if book is None else book
        before = remade(book)
        for call in (do, do_all, inverse, remains):
            error = caught(kind, call, book, edit)
            self.assertEqual(list(vars(error).values()), [told])
        self.assertEqual(list(vars(caught(kind, do, book, ("all", (edit,)))).values()), [told])
        self.assertTrue(book.is_same(before))

    def test_no_sheet(self):
        for word, edits in RIGHT.items():
            if word not in ("add", "name", "all"):
                self.refused(NoSheet, edits[0], "a")
        self.refused(NoSheet, ("cell", "data", (1, 1), 5, None, PLAIN), "data")
        self.refused(NoSheet, ("add", "New", "Nowhere"), "Nowhere")
        self.refused(NoSheet, ("order", "Data", "Nowhere"), "Nowhere")
        self.refused(NoSheet, ("order", "Never", "Nowhere"), "Never")
        self.refused(NoSheet, ("name", "Nowhere", "x", LOCAL), "Nowhere")
        self.refused(NoSheet, ("name", "Nowhere", "x", None), "Nowhere")
        self.refused(NoSheet, ("rename", "Nowhere", "Data"), "Nowhere")

    def test_no_merge_and_no_name(self):
        self.refused(NoMerge, ("split", "Data", (5, 1, 6, 1)), (5, 1, 6, 1))
        self.refused(NoMerge, ("split", "More", (5, 1, 6, 2)), (5, 1, 6, 2))
        self.refused(NoName, ("name", None, "sum", None), (None, "sum"))
        self.refused(NoName, ("name", "Data", "rate", None), ("Data", "rate"))

    def test_covered(self):
        for place in ((5, 2), (6, 1), (6, 2)):
            self.refused(Covered, ("cell", "Data", place, 5, None, BOLD), place)
            self.refused(Covered, ("cell", "Data", place, None, TREE, PLAIN), place)
            self.refused(Covered, ("link", "Data", place, "x"), place)
            self.assertEqual(do(a_book(), ("cell", "Data", place, None, None, BOLD)).sheets[0].cell_at(place), (None, None, BOLD))
            self.assertTrue(do(a_book(), ("link", "Data", place, None)).is_same(a_book()))
        do_all(a_book(), ("cell", "Data", (5, 1), 5, TREE, BOLD), ("link", "Data", (5, 1), "x"))

    def test_merge(self):
        for rectangle in ((5, 1, 6, 2), (6, 2, 7, 3), (1, 1, 9, 9), (4, 1, 5, 1)):
            self.refused(Taken, ("merge", "Data", rectangle), (5, 1, 6, 2))
        book = do(a_book(), ("merge", "Data", (4, 5, 5, 5)))
        self.refused(Taken, ("merge", "Data", (1, 1, 9, 9)), (4, 5, 5, 5), book)
        self.refused(Covered, ("merge", "Data", (1, 1, 3, 3)), (2, 2))
        self.refused(Covered, ("merge", "Data", (3, 2, 3, 4)), (3, 3))
        self.refused(Covered, ("merge", "Data", (1, 1, 2, 2)), (2, 2))
        book = do_all(a_book(), ("cell", "Last", (1, 1), 5, None, PLAIN), ("link", "Last", (1, 1), "x"), ("cell", "Last", (2, 2), None, None, BOLD))
        self.assertEqual(do(book, ("merge", "Last", (1, 1, 3, 3))).sheets[2].merges, ((1, 1, 3, 3),))
        for edit in (("link", "Last", (2, 2), "x"), ("cell", "Last", (2, 2), None, TREE, PLAIN)):
            self.refused(Covered, ("merge", "Last", (1, 1, 3, 3)), (2, 2), do_all(book, edit, ("link", "Last", (3, 1), "y")))

    def test_2000_cells_and_links(self):
        cells = [cell(row, column, 1) for row in range(1, 2000) for column in (1,)]
        book = Book([Sheet("Data", cells=cells, links=[((row, 1), "x") for row in range(1, 2000)])])
        book = do_all(book, ("cell", "Data", (2000, 1), None, TREE, PLAIN), ("link", "Data", (2000, 1), "x"))
        self.refused(TooMuch, ("cell", "Data", (2000, 2), None, None, BOLD), 2000, book)
        self.refused(TooMuch, ("link", "Data", (2000, 2), "x"), 2000, book)
        do_all(book, ("cell", "Data", (2000, 1), 5, None, PLAIN), ("link", "Data", (2000, 1), "y"), ("cell", "Data", (2000, 2), None, None, PLAIN), ("link", "Data", (2000, 2), None))

    def test_300_merges(self):
        book = Book([Sheet("Data", merges=[(row, 1, row, 2) for row in range(1, 300)])])
        book = do(book, ("merge", "Data", (300, 1, 300, 2)))
        self.refused(TooMuch, ("merge", "Data", (301, 1, 301, 2)), 300, book)
        self.refused(Taken, ("merge", "Data", (300, 2, 301, 2)), (300, 1, 300, 2), book)
        self.refused(Covered, ("merge", "Data", (301, 1, 301, 2)), (301, 2), do(book, ("cell", "Data", (301, 2), 1, None, PLAIN)))

    def test_30_sheets(self):
        book = Book([Sheet(f"s{at}") for at in range(29)])
        book = do(book, ("add", "x", "s3"))
        self.refused(TooMuch, ("add", "y", None), 30, book)
        self.refused(TooMuch, ("add", "X", None), 30, book)
        self.refused(NoSheet, ("add", "X", "y"), "y", book)

    def test_200_names(self):
        book = Book([Sheet("Data")], names=[(None, f"n_{at:03}", ("number", 1)) for at in range(199)])
        book = do(book, ("name", "Data", "x", ("name", "y")))
        self.refused(TooMuch, ("name", None, "y", ("name", "y")), 200, book)
        do(book, ("name", None, "n_000", ("number", 2)))

    def test_past_border(self):
        book = do(a_book(), ("cell", "Data", (9999, 1), 1, None, PLAIN))
        self.refused(PastBorder, ("insert", "Data", "rows", 1, 1), ("cell", (9999, 1)), book)
        self.refused(PastBorder, ("insert", "Data", "rows", 1, 9999), ("cell", (1, 1)))
        self.refused(PastBorder, ("insert", "Data", "columns", 3, 702), ("link", (3, 3)))
        self.refused(PastBorder, ("insert", "Data", "rows", 7, 9994), ("tree", "More", (9, 1)))
        do(book, ("delete", "Data", "rows", 1, 9999))

    def test_taken_and_dangling(self):
        for name in ("Data", "DATA", "last"):
            self.refused(Taken, ("add", name, None), name)
            self.refused(Taken, ("rename", "More", name), name)
        book = do(a_book(), ("cell", "Last", (1, 1), None, read_formula("=Gone!A1+DATA!A1+LAST!A1"), PLAIN))
        for name in ("Gone", "LAST"):
            self.refused(Dangling, ("rename", "Last", name), name, book)
        self.refused(Taken, ("rename", "Last", "DATA"), "DATA", book)
        do_all(book, ("add", "Gone", None), ("rename", "Last", "gone2"))
        do(book, ("rename", "Last", "Last"))
        book = do(a_book(), ("name", None, "x", read_formula("=Gone!$A$1")))
        self.refused(Dangling, ("rename", "Data", "Gone"), "Gone", book)

    def test_still_active(self):
        self.refused(StillActive, ("remove", "More"), "More")
        self.refused(StillActive, ("remove", "Data"), "Data", Book([Sheet("Data")]))

    def test_rings_of_names(self):
        self.refused(RingOfNames, ("name", None, "rate", read_formula("=tax")), ((None, "rate"), (None, "tax")))
        self.refused(RingOfNames, ("name", "More", "rate", read_formula("=rate")), (("More", "rate"),))


class Back(unittest.TestCase):
    def back(self, edit, *wanted, book=None):
        """The inverse is just these edits; the first one is the opposite, the others are the remains."""
        book = a_book() if book is None else book
        self.assertEqual(inverse(book=book, edit=edit), wanted[0] if len(wanted) == 1 else ("all", wanted))
        self.assertEqual(remains(book=book, edit=edit), wanted[1:])
        behind = do(book, edit)
        self.assertTrue(do(behind, inverse(book, edit)).is_same(book))
        again = inverse(behind, inverse(book, edit))
        self.assertTrue(do(book, again).is_same(behind))

    def test_each_word(self):
        self.back(("cell", "Data", (2, 2), None, None, PLAIN), ("cell", "Data", (2, 2), 2, read_formula("=A1+More!A1"), PLAIN))
        self.back(("cell", "Data", (9, 9), True, TREE, BOLD), ("cell", "Data", (9, 9), None, None, PLAIN))
        self.back(("link", "Data", (3, 3), None), ("link", "Data", (3, 3), "t"))
        self.back(("link", "Data", (4, 4), "u"), ("link", "Data", (4, 4), None))
        self.back(("merge", "Data", (8, 8, 9, 9)), ("split", "Data", (8, 8, 9, 9)))
        self.back(("split", "Data", (5, 1, 6, 2)), ("merge", "Data", (5, 1, 6, 2)))
        self.back(("setting", "Data", "rows", 4, 9, False, BOLD), ("setting", "Data", "rows", 4, None, True, PLAIN))
        self.back(("setting", "Data", "columns", 2, 9, False, BOLD), ("setting", "Data", "columns", 2, None, False, PLAIN))
        self.back(("freeze", "Data", 9, 9), ("freeze", "Data", 2, 1))
        self.back(("hide", "More", False), ("hide", "More", True))
        self.back(("hide", "More", True), ("hide", "More", True))
        self.back(("activate", "Last"), ("activate", "More"))
        self.back(("insert", "Data", "rows", 2, 3), ("delete", "Data", "rows", 2, 3))
        self.back(("insert", "Last", "rows", 9999, 9999), ("delete", "Last", "rows", 9999, 1))
        self.back(("insert", "Last", "columns", 700, 50), ("delete", "Last", "columns", 700, 3))
        self.back(("delete", "Data", "rows", 8, 1), ("insert", "Data", "rows", 8, 1))
        self.back(("add", "New", "Data"), ("remove", "New"))
        self.back(("remove", "Last"), ("add", "Last", "More"))
        self.back(("order", "Last", None), ("order", "Last", "More"))
        self.back(("order", "Data", "Last"), ("order", "Data", None))
        self.back(("rename", "More", "New"), ("rename", "New", "More"))
        self.back(("name", None, "rate", None), ("name", None, "rate", FIXED))
        self.back(("name", "Last", "x", LOCAL), ("name", "Last", "x", None))

    def test_all(self):
        book = a_book()
        self.assertEqual(inverse(book, ("all", ())), ("all", ()))
        edits = (("hide", "Data", True), ("rename", "Data", "New"), ("cell", "New", (1, 1), 7, None, PLAIN))
        self.assertEqual(inverse(book, ("all", edits)), ("all", (("cell", "New", (1, 1), 1, None, PLAIN), ("rename", "New", "Data"), ("hide", "Data", False))))
        self.assertEqual(remains(book, ("all", edits)), ())
        mixed = ("all", (("delete", "Data", "rows", 1, 2), ("hide", "Data", True), ("remove", "Data")))
        back = inverse(book, mixed)
        self.assertTrue(is_edit(back))
        self.assertTrue(do(do(book, mixed), back).is_same(book))
        self.assertEqual(inverse(book, ("all", (edits[0],))), ("hide", "Data", False))

    def test_what_deleting_destroys(self):
        book = a_book()
        told = remains(book, ("delete", "Data", "rows", 1, 2))
        self.assertEqual(told, (("cell", "Data", (1, 1), 1, None, PLAIN), ("cell", "Data", (2, 2), 2, read_formula("=A1+More!A1"), PLAIN), ("freeze", "Data", 2, 1), ("name", None, "rate", FIXED)))
        self.back(("delete", "Data", "rows", 5, 1), ("insert", "Data", "rows", 5, 1), ("split", "Data", (6, 1, 6, 2)), ("merge", "Data", (5, 1, 6, 2)),
                  ("cell", "More", (9, 1), None, read_formula("=Data!B5:B9"), PLAIN))
        self.back(("delete", "Data", "columns", 1, 3), ("insert", "Data", "columns", 1, 3), *remains(book, ("delete", "Data", "columns", 1, 3)))
        self.assertEqual([edit[:3] for edit in remains(book, ("delete", "Data", "columns", 1, 3))],
                         [("cell", "Data", (1, 1)), ("cell", "Data", (2, 2)), ("link", "Data", (3, 3)), ("merge", "Data", (5, 1, 6, 2)), ("setting", "Data", "columns"), ("freeze", "Data", 2),
                          ("cell", "More", (9, 1)), ("name", None, "rate")])

    def test_what_removing_destroys(self):
        book = do(a_book(), ("activate", "Data"))
        self.back(("remove", "More"), ("add", "More", "Data"), ("cell", "More", (1, 1), "x", None, PLAIN), ("cell", "More", (9, 1), None, read_formula("=Data!B5:B9"), PLAIN), ("hide", "More", True),
                  ("name", "More", "rate", read_formula("=$A$1")), ("name", "More", "sum", read_formula("=tax+rate")), book=book)

    def test_the_remains_are_needed_one_by_one(self):
        chance = random.Random(12)
        found = 0
        for _ in range(60):
            book = random_book(chance)
            edit = random_edit(chance, book)
            if edit[0] in ("delete", "remove"):
                try:
                    behind = do(book, edit)
                except (Refused, Absent):
                    continue
                told = remains(book, edit)
                back = inverse(book, edit)
                opposite = back[1][0] if told else back
                self.assertEqual(opposite[0], {"delete": "insert", "remove": "add"}[edit[0]])
                self.assertEqual(differences(do(behind, opposite), book), told)
                for at in range(len(told)):
                    found += 1
                    try:
                        made = do_all(do(behind, opposite), *told[:at], *told[at + 1:])
                    except (Refused, Absent):
                        continue
                    self.assertFalse(made.is_same(book))
        self.assertGreater(found, 50)

    def test_inverses_lead_back(self):
        chance = random.Random(13)
        seen = {}
        for _ in range(150):
            book = random_book(chance)
            for _ in range(4):
                edit = random_edit(chance, book)
                try:
                    behind = do(book, edit)
                except (Refused, Absent):
                    continue
                seen[edit[0]] = True
                back = inverse(book, edit)
                self.assertTrue(is_edit(back))
                self.assertTrue(do(behind, back).is_same(book), edit)
                self.assertTrue(do(book, inverse(behind, back)).is_same(behind), edit)
                if edit[0] not in ("delete", "remove"):
                    self.assertEqual(remains(book, edit), ())
                    self.assertNotEqual(back[0], "all")
                book = behind
        self.assertEqual(sorted(seen), sorted(set(WORDS) - {"all"}))

    def test_the_example(self):
        book = Book((Sheet("Data"),))
        tree = read_formula("=SUM(A4:A6)")
        book = do_all(book, ("cell", "Data", (1, 1), 5, tree, PLAIN), ("insert", "Data", "rows", 1, 2))
        self.assertEqual(inverse(book, ("insert", "Data", "rows", 5, 1)), ("delete", "Data", "rows", 5, 1))
        self.assertEqual(remains(book, ("delete", "Data", "rows", 7, 2))[0][:3], ("cell", "Data", (3, 1)))


if __name__ == "__main__":
    unittest.main()
