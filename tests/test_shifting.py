"""[28], [29] and gridfile/shifting.py: books and trees moved, rows and columns inserted and deleted, sheets renamed."""

import random
import unittest

from gridfile.editmaps import EditMap
from gridfile.errors import (BadBook, BadFrozen, BadMap, BadNumber, BadPlace, BadRectangle, BadSheetName, BadTree, BadWord,
                             Dangling, NoSheet, PastBorder, Taken)
from gridfile.formulas import print_formula, read_formula
from gridfile.model import Book, Sheet
from gridfile.shifting import (deleted, inserted, moved, moved_frozen, moved_merge, moved_place, moved_tree, names_touched,
                               renamed, touched)
from gridfile.values import PLAIN
from support import ODD_VALUES, caught

BOLD = ("", ("Plain", 10, True, False), None, (0, 0, 0, 0), ("general", False))
SAME = EditMap.unchanged()
NOT_SHEETS = [*[value for value in ODD_VALUES if value != "A1"], "data", "Data ", "Other", 2]
NO_AXES = [*ODD_VALUES, "row", "Rows", "rowscolumns", ("rows",), ["rows"]]
NO_MAPS = [*ODD_VALUES, SAME.pieces]


def formula(text):
    return read_formula("=" + text)


def cell(name, value=None, text=None, style=PLAIN):
    """A cell at a place that is named as a pair."""
    return (name, value, None if text is None else formula(text), style)


def moved_text(text, axis, edit_map, home="Data", name="Data"):
    return print_formula(moved_tree(formula(text), home, name, axis, edit_map))[1:]


def a_book():
    data = Sheet("Data", cells=[cell((1, 1), 1), cell((2, 2), None, "A1+A5:B2"), cell((4, 1), "x", None, BOLD), cell((5, 3), None, "More!A5")],
                 merges=[(2, 2, 3, 4), (4, 1, 4, 3), (6, 1, 7, 1)], rows=[(2, 20, False, PLAIN), (5, None, True, PLAIN)],
                 columns=[(1, 30, False, PLAIN), (4, None, False, BOLD)], frozen=(3, 2), links=[((2, 1), "x"), ((6, 1), "y")])
    more = Sheet("More", cells=[cell((1, 1), None, "Data!A4+A4"), cell((9, 9), None, "SUM(data!A4,Data!$B$1:C7)")], frozen=(1, 1))
    names = [(None, "all", formula("Data!$A$1:$B$9999")), (None, "one", formula("Data!$A$4")), ("Data", "two", formula("$A$4+More!$A$4")),
             ("More", "three", formula("$A$4"))]
    return Book([data, more, Sheet("Last")], active=2, names=names)


def random_book(chance):
    """A book of two sheets with everything in the first rows and columns, and few things at the borders."""
    def part():
        return (chance.choice((*range(1, 12), 9990)), chance.choice((*range(1, 12), 690)), chance.random() < 0.5, chance.random() < 0.5)

    def tree():
        sheet = chance.choice((None, None, "Data", "More", "Gone"))
        return chance.choice((("cell", sheet, part()), ("range", sheet, part(), part()), ("op", "+", ("cell", None, part()), ("minus", ("range", sheet, part(), part()))),
                              ("range", sheet, (1, 1, True, False), (9999, 702, False, True))))

    sheets = []
    for name in ("Data", "More"):
        merges = sorted({(row, column, row + chance.randint(0, 2), column + chance.randint(1, 2)) for row in (1, 4, 7, 10) for column in (1, 5)})
        covered = {(row, column) for merge in merges for row in range(merge[0], merge[2] + 1) for column in range(merge[1], merge[3] + 1)
                   if (row, column) != merge[:2]}
        free = [(row, column) for row in range(1, 13) for column in range(1, 10) if (row, column) not in covered]
        cells = [(place, chance.choice((None, 5, "x")), tree(), PLAIN) for place in sorted(chance.sample(free, 20))]
        links = [(place, "x") for place in sorted(chance.sample(free, 8))]
        settings = [[(number, number, True, PLAIN) for number in sorted(chance.sample(range(1, 13), 6))] for _ in range(2)]
        sheets.append(Sheet(name, cells=cells, merges=merges, rows=settings[0], columns=settings[1], links=links,
                            frozen=(chance.randint(0, 9), chance.randint(0, 9))))
    names = [(None, "one", ("cell", "Data", (*part()[:2], True, True))), ("More", "two", ("cell", None, (*part()[:2], True, True)))]
    return Book(sheets, names=names)


class Trees(unittest.TestCase):
    def test_cells_go_with_their_rows(self):
        edit_map = EditMap.of((("insert", 3, 2), ("delete", 7, 1)))
        told = {"A1": "A1", "A2": "A2", "A3": "A5", "A4": "A6", "A5": "#REF!", "A6": "A7", "A$5": "#REF!", "$A$6": "$A$7", "B3": "B5",
                "Data!A3": "Data!A5", "More!A3": "More!A3", "data!A3": "data!A3", "Data!A5": "#REF!", "SUM(A3,A5,-A6)": "SUM(A5,#REF!,-A7)",
                "#REF!": "#REF!", "rate": "rate", "A9998": "A9999"}
        for text, other in told.items():
            self.assertEqual(moved_text(text, "rows", edit_map), other)

    def test_cells_go_with_their_columns(self):
        edit_map = EditMap.of((("insert", 3, 2), ("delete", 7, 1)))
        told = {"A1": "A1", "B1": "B1", "C1": "E1", "E9": "#REF!", "$F$9": "$G$9", "ZY9999": "ZZ9999", "C3:F4": "E3:G4",
                "A1:E1": "A1:F1", "E1:E9": "#REF!", "A1:ZZ1": "A1:ZZ1", "ZZ1:A3": "ZZ1:A3", "ZZ1:$A$3": "ZZ1:$A$3"}
        for text, other in told.items():
            self.assertEqual(moved_text(text, "columns", edit_map), other)

    def test_ranges_go_with_their_spans_in_any_order_of_corners(self):
        edit_map = EditMap.of((("insert", 3, 2), ("delete", 6, 2)))
        # The new rows 3 and 4 lie between 2 and 3; 4 and 5 are gone.
        told = {"A2:B3": "A2:B5", "B3:A2": "B5:A2", "A3:B2": "A5:B2", "B2:A3": "B2:A5", "$A3:B$2": "$A5:B$2", "A3:A3": "A5:A5", "A3:A5": "A5:A5",
                "A5:A3": "A5:A5", "A4:A5": "#REF!", "A5:B4": "#REF!", "A4:A6": "A6:A6", "A6:B4": "A6:B6", "A1:A4": "A1:A5", "A5:A7": "A6:A7",
                "A3:A4": "A5:A5", "A1:A2": "A1:A2", "A1:A9998": "A1:A9998", "Data!A2:B3": "Data!A2:B5", "More!A2:B3": "More!A2:B3"}
        for text, other in told.items():
            self.assertEqual(moved_text(text, "rows", edit_map), other, text)

    def test_new_rows_in_place_of_old_ones_belong_to_the_span_around_them(self):
        one = EditMap.of((("insert", 3, 1), ("delete", 2, 1), ("delete", 3, 1)))
        two = EditMap.of((("delete", 2, 2), ("insert", 2, 1)))
        self.assertEqual((moved_text("A2:A3", "rows", one), moved_text("A2:A3", "rows", two)), ("A2:A2", "#REF!"))

    def test_a_range_over_all_rows_stays(self):
        for edit_map in (EditMap.inserting(5, 3), EditMap.deleting(1, 9999), EditMap.deleting(5, 3)):
            for text in ("A1:B9999", "B9999:A1", "$B$9999:A1", "A9999:B1"):
                self.assertEqual(moved_text(text, "rows", edit_map), text)
        self.assertEqual(moved_text("A1:B9999", "columns", EditMap.inserting(2, 1)), "A1:C9999")
        self.assertEqual(moved_text("A1:ZZ9", "columns", EditMap.deleting(1, 702)), "A1:ZZ9")
        self.assertEqual(moved_text("A2:B9999", "rows", EditMap.deleting(1, 1)), "A1:B9998")

    def test_what_is_refused(self):
        tree = formula("SUM(A1,A9999,1)+A9998:A2+A9999")
        self.assertEqual(caught(PastBorder, moved_tree, tree, "Data", "Data", "rows", EditMap.inserting(1, 1)).place, (2, 2, 2, 1))
        self.assertEqual(caught(PastBorder, moved_tree, tree, "Data", "Data", "rows", EditMap.inserting(9999, 1)).place, (2, 2, 2, 1))
        self.assertEqual(caught(PastBorder, moved_tree, formula("A1+A9:A9999"), "D", "D", "rows", EditMap.inserting(3, 1)).place, (3,))
        self.assertEqual(caught(PastBorder, moved_tree, formula("A9999"), "D", "D", "rows", EditMap.inserting(3, 1)).place, ())
        self.assertEqual(caught(PastBorder, moved_tree, formula("ZZ1"), "D", "D", "columns", EditMap.inserting(702, 1)).place, ())
        self.assertEqual(moved_text("ZY1", "columns", EditMap.inserting(702, 1)), "ZY1")
        # A range that is not over all rows does not come to be so.
        self.assertEqual(caught(PastBorder, moved_tree, formula("A1:A9997"), "D", "D", "rows", EditMap.inserting(5, 2)).place, ())
        self.assertEqual(moved_text("A1:A9996", "rows", EditMap.inserting(5, 2)), "A1:A9998")
        self.assertEqual(moved_text("A2:A9997", "rows", EditMap.inserting(5, 2)), "A2:A9999")
        cut = EditMap.of((("insert", 5, 3), ("delete", 9998, 1)))
        self.assertEqual(caught(PastBorder, moved_tree, formula("A1:A9997"), "D", "D", "rows", cut).place, ())
        self.assertEqual(caught(PastBorder, moved_tree, formula("B1:ZZ1"), "D", "D", "columns",
                                EditMap.of((("delete", 1, 1), ("insert", 5, 1)))).place, ())

    def test_the_sheet_that_a_reference_means(self):
        edit_map = EditMap.inserting(1, 1)
        told = {("Data", "Data"): "A2+Data!A2+More!A1", ("More", "Data"): "A1+Data!A2+More!A1", ("More", "More"): "A2+Data!A1+More!A2",
                (None, "Data"): "A1+Data!A2+More!A1", (None, "Other"): "A1+Data!A1+More!A1", ("data", "Data"): "A1+Data!A2+More!A1"}
        for (home, name), text in told.items():
            self.assertEqual(moved_text("A1+Data!A1+More!A1", "rows", edit_map, home, name), text)

    def test_wrong_arguments_in_their_order(self):
        tree = formula("A1")
        for value in ODD_VALUES:
            self.assertEqual(caught(BadTree, moved_tree, value, 5, 5, 5, 5).given, value)
        for value in [*[value for value in ODD_VALUES if value not in (None, "A1")], "a:b", " a"]:
            self.assertEqual(caught(BadSheetName, moved_tree, tree, value, 5, 5, 5).given, value)
            self.assertEqual(caught(BadSheetName, moved_tree, tree, None, value, 5, 5).given, value)
            self.assertEqual(caught(BadSheetName, moved_tree, tree, "Data", value, 5, 5).given, value)
        self.assertIsNone(caught(BadSheetName, moved_tree, tree, None, None, 5, 5).given)
        for value in NO_AXES:
            self.assertEqual(caught(BadWord, moved_tree, tree, None, "Data", value, 5).given, value)
        for value in NO_MAPS:
            self.assertEqual(caught(BadMap, moved_tree, tree, None, "Data", "rows", value).given, value)
        self.assertEqual(moved_tree(tree=tree, home=None, name="a", axis="rows", edit_map=SAME), tree)


class Books(unittest.TestCase):
    def test_rows(self):
        book = moved(a_book(), "Data", "rows", EditMap.of((("insert", 3, 1), ("delete", 5, 2))))
        # Row 3 is 4 now, rows 4 and 5 are gone, row 6 is 5.
        data, more, last = book.sheets
        self.assertEqual(data.cells, (cell((1, 1), 1), cell((2, 2), None, "A1+A4:B2")))
        self.assertEqual(data.merges, ((2, 2, 4, 4), (5, 1, 6, 1)))
        self.assertEqual((data.rows, data.columns), (((2, 20, False, PLAIN),), a_book().sheets[0].columns))
        self.assertEqual((data.frozen, data.links), ((4, 2), (((2, 1), "x"), ((5, 1), "y"))))
        self.assertEqual(more.cells, (cell((1, 1), None, "#REF!+A4"), cell((9, 9), None, "SUM(data!A4,Data!$B$1:C6)")))
        self.assertEqual((more.frozen, last.is_same(Sheet("Last")), book.active), ((1, 1), True, 2))
        self.assertEqual(book.names, ((None, "all", formula("Data!$A$1:$B$9999")), (None, "one", ("lost",)),
                                      ("Data", "two", formula("#REF!+More!$A$4")), ("More", "three", formula("$A$4"))))

    def test_columns(self):
        book = moved(a_book(), "Data", "columns", EditMap.deleting(2, 2))
        data, more, _ = book.sheets
        self.assertEqual(data.cells, (cell((1, 1), 1), cell((4, 1), "x", None, BOLD)))
        self.assertEqual(data.merges, ((2, 2, 3, 2), (6, 1, 7, 1)))
        self.assertEqual((data.columns, data.rows), (((1, 30, False, PLAIN), (2, None, False, BOLD)), a_book().sheets[0].rows))
        self.assertEqual((data.frozen, data.links), ((3, 1), (((2, 1), "x"), ((6, 1), "y"))))
        self.assertEqual(more.cells[1], cell((9, 9), None, "SUM(data!A4,#REF!)"))
        self.assertEqual(book.names[0][2], formula("Data!$A$1:$A$9999"))

    def test_another_sheet(self):
        book = moved(a_book(), "More", "rows", EditMap.inserting(2, 5))
        self.assertEqual(book.sheets[0].cells[3], cell((5, 3), None, "More!A10"))
        self.assertEqual(book.sheets[1].cells, (cell((1, 1), None, "Data!A4+A9"), cell((14, 9), None, "SUM(data!A4,Data!$B$1:C7)")))
        self.assertEqual([item[2] for item in book.names[2:]], [formula("$A$4+More!$A$9"), formula("$A$9")])
        self.assertEqual(moved(a_book(), "Last", "rows", EditMap.inserting(2, 5)).is_same(a_book()), True)

    def test_trees_of_cells_that_vanish_do_not_refuse(self):
        book = Book([Sheet("a", cells=[cell((1, 1), None, "A9999")])])
        edit_map = EditMap.of((("delete", 1, 1), ("insert", 5, 2)))
        self.assertEqual(moved(book, "a", "rows", edit_map).sheets[0].cells, ())

    def test_merges_that_come_to_begin_in_one_row_are_in_order(self):
        book = Book([Sheet("a", merges=[(1, 3, 3, 3), (2, 1, 3, 1), (2, 2, 4, 2)])])
        self.assertEqual(deleted(book, "a", "rows", 1, 1).sheets[0].merges, ((1, 1, 2, 1), (1, 2, 3, 2), (1, 3, 2, 3)))

    def test_merges_vanish_if_one_place_is_left(self):
        merges = [(1, 1, 2, 1), (4, 1, 5, 2), (7, 1, 8, 1), (10, 1, 12, 1)]
        book = Book([Sheet("a", merges=merges, cells=[cell((7, 1), "x")])])
        edit_map = EditMap.of((("delete", 12, 1), ("delete", 8, 1), ("delete", 5, 1), ("delete", 1, 2)))
        sheet = moved(book, "a", "rows", edit_map).sheets[0]
        self.assertEqual(sheet.merges, ((2, 1, 2, 2), (6, 1, 7, 1)))
        self.assertEqual(sheet.cells, (cell((4, 1), "x"),))

    def test_the_order_of_what_is_refused(self):
        end = (9999, 1)
        sheet = Sheet("b", cells=[cell((1, 1), None, "A9999"), cell((9998, 1), 1), cell((9998, 2), 2)], merges=[(9, 3, 9999, 3), (10, 4, 9998, 5)],
                      rows=[(9997, 5, False, PLAIN), (9998, 5, False, PLAIN)], frozen=(9998, 0), links=[((1, 1), "x"), (end, "y")])
        first = Sheet("a", cells=[cell((2, 2), None, "1+b!A9998")])
        names = [(None, "n", formula("b!$A$9999")), ("b", "m", formula("$A$9999"))]
        book = Book([first, sheet], names=names)
        edit_map = EditMap.inserting(5, 2)
        wanted = [("cell", (9998, 1)), ("cell", (9998, 2)), ("merge", (9, 3, 9999, 3)), ("merge", (10, 4, 9998, 5)), ("setting", 9998),
                  ("frozen", 9998), ("link", end), ("tree", "a", (2, 2)), ("tree", "b", (1, 1)), ("name", None, "n"), ("name", "b", "m")]
        changes = [{"cells": [sheet.cells[0], sheet.cells[2]]}, {"cells": sheet.cells[:1]}, {"merges": sheet.merges[1:]}, {"merges": ()},
                   {"rows": sheet.rows[:1]}, {"frozen": (9997, 0)}, {"links": sheet.links[:1]}]
        told = []
        for change in changes:
            told.append(caught(PastBorder, moved, book, "b", "rows", edit_map).place)
            sheet = sheet.changed(**change)
            book = book.with_sheet(2, sheet)
        told.append(caught(PastBorder, moved, book, "b", "rows", edit_map).place)
        book = book.with_sheet(1, Sheet("a"))
        told.append(caught(PastBorder, moved, book, "b", "rows", edit_map).place)
        book = book.with_sheet(2, sheet.changed(cells=()))
        told.append(caught(PastBorder, moved, book, "b", "rows", edit_map).place)
        book = book.changed(names=names[1:])
        told.append(caught(PastBorder, moved, book, "b", "rows", edit_map).place)
        self.assertEqual(told, wanted)
        book = book.changed(names=())
        self.assertEqual(moved(book, "b", "rows", edit_map).sheets[1].frozen, (9999, 0))

    def test_what_is_refused_in_columns(self):
        for parts, place in (({"cells": [cell((1, 702), 1)]}, ("cell", (1, 702))), ({"merges": [(1, 3, 1, 702)]}, ("merge", (1, 3, 1, 702))),
                             ({"columns": [(702, 5, False, PLAIN)]}, ("setting", 702)), ({"frozen": (0, 702)}, ("frozen", 702)),
                             ({"links": [((1, 702), "x")]}, ("link", (1, 702))), ({"cells": [cell((1, 1), None, "B1:ZZ1")]}, ("tree", "a", (1, 1)))):
            book = Book([Sheet("a", **parts)])
            self.assertEqual(caught(PastBorder, inserted, book, "a", "columns", 3, 1).place, place)
            self.assertEqual(caught(PastBorder, moved, book, "a", "columns", EditMap.inserting(3, 1)).place, place)
            inserted(book, "a", "rows", 3, 1)

    def test_wrong_arguments_in_their_order(self):
        book = a_book()
        for call in (moved, touched, names_touched):
            for value in [*ODD_VALUES, book.sheets[0]]:
                self.assertEqual(caught(BadBook, call, value, 5, 5, 5).given, value)
            for value in NOT_SHEETS:
                self.assertEqual(caught(NoSheet, call, book, value, 5, 5).given, value)
            for value in NO_AXES:
                self.assertEqual(caught(BadWord, call, book, "Data", value, 5).given, value)
            for value in NO_MAPS:
                self.assertEqual(caught(BadMap, call, book, "Data", "rows", value).given, value)
            self.assertEqual(caught(PastBorder, call, Book([Sheet("a", frozen=(9999, 0))]), "a", "rows", EditMap.inserting(1, 1)).place,
                             ("frozen", 9999))

    def test_touched(self):
        book = a_book()
        edit_map = EditMap.inserting(4, 1)
        self.assertEqual(touched(book, "Data", "rows", edit_map), (1, 2))
        self.assertEqual(names_touched(book, "Data", "rows", edit_map), ((None, "one"), ("Data", "two")))
        self.assertEqual(touched(book=book, name="Data", axis="columns", edit_map=EditMap.inserting(9, 1)), ())
        self.assertEqual(names_touched(book=book, name="Data", axis="columns", edit_map=EditMap.inserting(2, 1)), ((None, "all"),))
        self.assertEqual((touched(book, "Data", "rows", SAME), names_touched(book, "Data", "rows", SAME)), ((), ()))
        self.assertEqual(touched(book, "More", "rows", EditMap.inserting(2, 1)), (1, 2))
        self.assertEqual(touched(book, "More", "rows", EditMap.inserting(6, 1)), (2,))
        self.assertEqual((touched(book, "Last", "rows", edit_map), names_touched(book, "Last", "rows", edit_map)), ((), ()))
        self.assertEqual(names_touched(book, "More", "rows", edit_map), (("Data", "two"), ("More", "three")))

    def test_the_book_that_is_passed_stays(self):
        book = a_book()
        moved(book, "Data", "rows", EditMap.deleting(1, 5))
        self.assertTrue(book.is_same(a_book()))


class Edits(unittest.TestCase):
    def test_inserted_and_deleted(self):
        book = a_book()
        for axis in ("rows", "columns"):
            for at, many in ((1, 1), (3, 2), (5, 1)):
                self.assertTrue(inserted(book, "Data", axis, at, many).is_same(moved(book, "Data", axis, EditMap.inserting(at, many))))
                self.assertTrue(deleted(book, "Data", axis, at, many).is_same(moved(book, "Data", axis, EditMap.deleting(at, many))))
        self.assertTrue(inserted(book=book, name="Data", axis="rows", at=3, many=2).is_same(inserted(book, "Data", "rows", 3, 2)))
        self.assertTrue(deleted(book=book, name="Data", axis="rows", at=3, many=2).is_same(deleted(book, "Data", "rows", 3, 2)))

    def test_deleting_what_was_inserted_leads_back(self):
        chance = random.Random(17)
        for _ in range(60):
            axis, at, many = chance.choice(("rows", "columns")), chance.randint(1, 10), chance.randint(1, 5)
            name = chance.choice(("Data", "More", "Last"))
            other = inserted(a_book(), name, axis, at, many)
            self.assertTrue(deleted(other, name, axis, at, many).is_same(a_book()))
        empty = Book([Sheet("a")])
        self.assertTrue(inserted(empty, "a", "rows", 9999, 9999).is_same(empty))

    def test_edits_one_by_one_do_what_their_map_does(self):
        chance = random.Random(24)
        many = 0
        for _ in range(150):
            axis, name = chance.choice(("rows", "columns")), chance.choice(("Data", "More"))
            edits = tuple((chance.choice(("insert", "delete")), chance.randint(1, 9), chance.randint(1, 3)) for _ in range(chance.randint(1, 5)))
            book = random_book(chance)
            one_by_one = book
            try:
                for word, at, count in edits:
                    one_by_one = (inserted if word == "insert" else deleted)(one_by_one, name, axis, at, count)
            except PastBorder:
                continue
            many += 1
            at_once = moved(book, name, axis, EditMap.of(edits))
            self.assertTrue(at_once.is_same(one_by_one))
            self.assertEqual(touched(book, name, axis, EditMap.of(edits)),
                             tuple(at + 1 for at, sheet in enumerate(book.sheets) if not sheet.is_same(at_once.sheets[at])))
        self.assertGreater(many, 60)

    def test_wrong_arguments_in_their_order(self):
        book = a_book()
        for call in (inserted, deleted):
            for value in ODD_VALUES:
                self.assertEqual(caught(BadBook, call, value, 5, 5, 0, 0).given, value)
            for value in NOT_SHEETS:
                self.assertEqual(caught(NoSheet, call, book, value, 5, 0, 0).given, value)
            for value in NO_AXES:
                self.assertEqual(caught(BadWord, call, book, "Data", value, 0, 0).given, value)
            for axis, most in (("rows", 9999), ("columns", 702)):
                for value in [*[value for value in ODD_VALUES if value != 1 or isinstance(value, bool)], most + 1, -1, 1.5]:
                    self.assertEqual(caught(BadNumber, call, book, "Data", axis, value, "x").given, value)
                    self.assertEqual(caught(BadNumber, call, book, "Data", axis, 1, value).given, value)
                self.assertEqual(call(Book([Sheet("a")]), "a", axis, 1, most).sheets[0].cells, ())
        for axis, most in (("rows", 9999), ("columns", 702)):
            self.assertEqual(caught(BadNumber, deleted, book, "Data", axis, 2, most).given, most)
            self.assertEqual(caught(BadNumber, deleted, book, "Data", axis, most, 2).given, 2)
            deleted(book, "Data", axis, most, 1)
            deleted(book, "Data", axis, 2, most - 1)
        self.assertEqual(caught(PastBorder, inserted, book, "Data", "rows", 1, 9999).place, ("cell", (1, 1)))


class SingleThings(unittest.TestCase):
    def test_places(self):
        edit_map = EditMap.of((("insert", 3, 2), ("delete", 1, 1)))
        told = {(1, 1): None, (2, 5): (1, 5), (3, 1): (4, 1), (9998, 702): (9999, 702)}
        for place, other in told.items():
            self.assertEqual(moved_place(place, "rows", edit_map), other)
        self.assertEqual(moved_place(place=(9, 3), axis="columns", edit_map=edit_map), (9, 4))
        self.assertIsNone(moved_place((9, 1), "columns", edit_map))
        self.assertEqual(caught(PastBorder, moved_place, (9999, 1), "rows", edit_map).place, (9999, 1))
        self.assertEqual(caught(PastBorder, moved_place, (1, 702), "columns", edit_map).place, (1, 702))
        self.assertEqual(moved_place((1, 701), "columns", edit_map), (1, 702))

    def test_merges(self):
        edit_map = EditMap.of((("insert", 3, 2), ("delete", 7, 2)))
        told = {(1, 1, 2, 1): (1, 1, 2, 1), (2, 1, 3, 1): (2, 1, 5, 1), (5, 1, 6, 9): None, (4, 1, 5, 1): None, (4, 1, 5, 2): (6, 1, 6, 2),
                (3, 3, 3, 3): None, (5, 2, 8, 2): (7, 2, 8, 2), (1, 1, 9999, 1): (1, 1, 9999, 1), (5, 1, 7, 1): None}
        for rectangle, other in told.items():
            self.assertEqual(moved_merge(rectangle, "rows", edit_map), other)
        self.assertEqual(moved_merge(rectangle=(1, 2, 1, 3), axis="columns", edit_map=edit_map), (1, 2, 1, 5))
        grown = EditMap.inserting(3, 2)
        self.assertEqual(caught(PastBorder, moved_merge, (1, 1, 9998, 1), "rows", grown).place, (1, 1, 9998, 1))
        self.assertEqual(caught(PastBorder, moved_merge, (1, 1, 9999, 1), "rows", grown).place, (1, 1, 9999, 1))
        self.assertEqual(moved_merge((1, 1, 9997, 1), "rows", grown), (1, 1, 9999, 1))

    def test_frozen(self):
        edit_map = EditMap.of((("insert", 3, 2), ("delete", 1, 1)))
        told = {(0, 0): (0, 0), (1, 5): (0, 5), (2, 5): (1, 5), (3, 5): (4, 5), (9998, 702): (9999, 702)}
        for frozen, other in told.items():
            self.assertEqual(moved_frozen(frozen, "rows", edit_map), other)
        self.assertEqual(moved_frozen(frozen=(9999, 3), axis="columns", edit_map=edit_map), (9999, 4))
        self.assertEqual(moved_frozen((0, 0), "rows", EditMap.inserting(1, 1)), (0, 0))
        self.assertEqual(caught(PastBorder, moved_frozen, (9999, 0), "rows", edit_map).place, (9999, 0))
        self.assertEqual(caught(PastBorder, moved_frozen, (5, 702), "columns", edit_map).place, (5, 702))

    def test_wrong_arguments_in_their_order(self):
        for call, kind, right in ((moved_place, BadPlace, (2, 2)), (moved_merge, BadRectangle, (1, 1, 2, 2)), (moved_frozen, BadFrozen, (0, 0))):
            for value in ODD_VALUES:
                if value not in ((1, 1, 1, 1),):
                    self.assertEqual(caught(kind, call, value, 5, 5).given, value)
            for value in NO_AXES:
                self.assertEqual(caught(BadWord, call, right, value, 5).given, value)
            for value in NO_MAPS:
                self.assertEqual(caught(BadMap, call, right, "columns", value).given, value)
        for value in ((10000, 0), (0, 703), (-1, 0), (0, True), [0, 0]):
            self.assertEqual(caught(BadFrozen, moved_frozen, value, "rows", SAME).given, value)
        for value in ((0, 1), (1, 703), [1, 1]):
            self.assertEqual(caught(BadPlace, moved_place, value, "rows", SAME).given, value)
        for value in ((2, 1, 1, 1), (1, 1, 1, 703), [1, 1, 1, 1]):
            self.assertEqual(caught(BadRectangle, moved_merge, value, "rows", SAME).given, value)


class Renaming(unittest.TestCase):
    def test_references_and_scopes_follow(self):
        book = renamed(a_book(), "Data", "a b")
        self.assertEqual([sheet.name for sheet in book.sheets], ["a b", "More", "Last"])
        self.assertTrue(book.sheets[0].changed(name="Data").is_same(a_book().sheets[0]))
        self.assertEqual(book.sheets[1].cells, (cell((1, 1), None, "'a b'!A4+A4"), cell((9, 9), None, "SUM(data!A4,'a b'!$B$1:C7)")))
        self.assertEqual(book.names, ((None, "all", formula("'a b'!$A$1:$B$9999")), (None, "one", formula("'a b'!$A$4")),
                                      ("a b", "two", formula("$A$4+More!$A$4")), ("More", "three", formula("$A$4"))))
        self.assertEqual(book.active, 2)
        self.assertTrue(renamed(book=book, name="a b", other="Data").is_same(a_book()))

    def test_only_the_case_of_letters(self):
        book = a_book().with_sheet(2, Sheet("More", cells=[cell((1, 1), None, "Data!A4")]))
        self.assertEqual(renamed(book, "Data", "DATA").sheets[1].cells[0], cell((1, 1), None, "DATA!A4"))
        self.assertTrue(renamed(a_book(), "Data", "Data").is_same(a_book()))

    def test_what_is_refused(self):
        book = a_book()
        for value in ("More", "more", "LAST"):
            self.assertEqual(caught(Taken, renamed, book, "Data", value).given, value)
        self.assertEqual(caught(Dangling, renamed, book, "Data", "data").given, "data")
        other = Book([Sheet("a", cells=[cell((1, 1), None, "F(Gone!A1:B2)")]), Sheet("b")])
        self.assertEqual(caught(Dangling, renamed, other, "a", "Gone").given, "Gone")
        self.assertEqual(caught(Dangling, renamed, other, "b", "Gone").given, "Gone")
        self.assertEqual(renamed(other, "b", "gone").sheets[1].name, "gone")
        named = Book([Sheet("a"), Sheet("b")], names=[(None, "n", formula("Gone!$A$1"))])
        self.assertEqual(caught(Dangling, renamed, named, "a", "Gone").given, "Gone")
        # A taken name is told first, though references lead to it, too.
        self.assertEqual(caught(Taken, renamed, book, "Last", "More").given, "More")

    def test_wrong_arguments_in_their_order(self):
        book = a_book()
        for value in ODD_VALUES:
            self.assertEqual(caught(BadBook, renamed, value, 5, 5).given, value)
        for value in NOT_SHEETS:
            self.assertEqual(caught(NoSheet, renamed, book, value, 5).given, value)
        for value in [*[value for value in ODD_VALUES if value != "A1"], "a:b", " a", "a ", "x" * 32]:
            self.assertEqual(caught(BadSheetName, renamed, book, "Data", value).given, value)


if __name__ == "__main__":
    unittest.main()
