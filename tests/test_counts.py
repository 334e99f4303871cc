"""[40], [41] and gridfile/counts.py: the least counts of books, and papers."""

import unittest

from gridfile.counts import check_paper, counts_of, formula_cells, is_shown, paper_of
from gridfile.errors import BadBook, BadPaper, BadSheet
from gridfile.forms import relative
from gridfile.formulas import read_formula
from gridfile.model import Book, Sheet
from gridfile.runs import formula_lines
from gridfile.values import PLAIN
from support import ODD_VALUES, caught

BOLD = ("", ("Plain", 10, True, False), None, (0, 0, 0, 0), ("general", False))
RED = ("0.0", ("Plain", 10, True, False), 255, (0, 0, 0, 0), ("general", False))
EDGE = ("", ("Plain", 10, False, False), 0, (0, 0, 0, 1), ("left", False))
SORTS = ["strings", "styles", "format", "font", "fill", "border", "align"]
SHEET_SORTS = ["columns", "rows", "cells", "formulas", "merges", "links"]


def a_sheet():
    cells = [((1, 1), "x", None, BOLD), ((1, 2), "y", read_formula("=A1"), PLAIN), ((1, 3), None, read_formula("=B1"), PLAIN),
             ((2, 2), "x", read_formula("=A2"), RED), ((2, 3), None, read_formula("=5"), PLAIN), ((3, 1), 1, None, PLAIN), ((3, 2), True, None, PLAIN),
             ((4, 1), None, None, EDGE)]
    return Sheet("a", cells=cells, merges=[(6, 1, 7, 1), (6, 3, 6, 4)], links=[((1, 1), "t"), ((9, 9), "t")],
                 columns=[(1, 5, False, PLAIN), (2, 5, False, PLAIN), (3, None, True, PLAIN), (5, None, True, PLAIN)],
                 rows=[(1, 1, False, PLAIN), (2, 1, True, EDGE)])


def a_book():
    other = Sheet("b", cells=[((1, 1), "z", None, BOLD), ((1, 2), "", None, PLAIN), ((5, 5), "x", None, PLAIN), ((6, 5), 1, None, PLAIN)])
    return Book([a_sheet(), other, Sheet("c")])


COUNTS = [("strings", 0, 4), ("styles", 0, 3), ("format", 0, 1), ("font", 0, 1), ("fill", 0, 2), ("border", 0, 1), ("align", 0, 1),
          ("columns", 1, 3), ("rows", 1, 2), ("cells", 1, 6), ("formulas", 1, 3), ("merges", 1, 2), ("links", 1, 2),
          ("columns", 2, 0), ("rows", 2, 0), ("cells", 2, 4), ("formulas", 2, 0), ("merges", 2, 0), ("links", 2, 0),
          ("columns", 3, 0), ("rows", 3, 0), ("cells", 3, 0), ("formulas", 3, 0), ("merges", 3, 0), ("links", 3, 0)]
RIGHT = {("strings", 0): ("x", "y", "z", ""), ("styles", 0): (BOLD, RED, EDGE), ("format", 0): ("0.0",), ("font", 0): (BOLD[1],),
         ("fill", 0): (255, 0), ("border", 0): (EDGE[3],), ("align", 0): (EDGE[4],), ("columns", 1): (1, 3, 5), ("rows", 1): (1, 2),
         ("cells", 1): ((1, 1), (1, 2), (2, 2), (3, 1), (3, 2), (4, 1)), ("merges", 1): ((6, 1, 7, 1), (6, 3, 6, 4)),
         ("links", 1): ((1, 1), (9, 9)), ("cells", 2): ((1, 1), (1, 2), (5, 5), (6, 5)),
         ("formulas", 1): ((((1, 2), (2, 2)), ((1, 2), (1, 3))),)}


class Counts(unittest.TestCase):
    def test_formula_cells(self):
        sheet = a_sheet()
        self.assertEqual(formula_cells(sheet), [(cell[0], relative(cell[2], cell[0])) for cell in sheet.cells if cell[2] is not None])
        self.assertEqual(formula_cells(sheet=sheet)[0], ((1, 2), ("rcell", None, (0, -1, False, False))))
        self.assertEqual(formula_cells(Sheet("a")), [])
        for value in ODD_VALUES:
            self.assertEqual(caught(BadSheet, formula_cells, value).given, value)

    def test_each_sort(self):
        self.assertEqual(counts_of(a_book()), COUNTS)
        self.assertEqual(counts_of(book=a_book()), COUNTS)
        self.assertEqual(counts_of(Book([Sheet("a")])), [(sort, 0, 0) for sort in SORTS] + [(sort, 1, 0) for sort in SHEET_SORTS])

    def test_styles_of_columns_and_rows_count_too(self):
        book = Book([Sheet("a", columns=[(1, None, False, BOLD)]), Sheet("b", rows=[(7, 1, False, RED)])])
        self.assertEqual([count for _, _, count in counts_of(book)[:7]], [0, 2, 1, 1, 1, 0, 0])

    def test_formula_lines(self):
        cells = [((row, column), None, read_formula("=5"), PLAIN) for row in range(1, 4) for column in range(1, 6)]
        book = Book([Sheet("a", cells=cells)])
        self.assertIn(("formulas", 1, 3), counts_of(book))
        self.assertIn(("cells", 1, 0), counts_of(book))
        self.assertEqual(len(formula_lines(formula_cells(book.sheets[0]))), 3)

    def test_no_book_before_all_other_errors(self):
        for value in [*ODD_VALUES, Sheet("a")]:
            for call in (counts_of, paper_of, lambda book: check_paper(book, None), lambda book: is_shown(book, None)):
                self.assertEqual(caught(BadBook, call, value).given, value)


class Papers(unittest.TestCase):
    def test_a_paper_of_all_counts(self):
        for book in (a_book(), Book([Sheet("a")])):
            paper = paper_of(book)
            self.assertIsInstance(paper, tuple)
            self.assertEqual([row[:2] for row in paper], [count[:2] for count in counts_of(book)])
            self.assertEqual(check_paper(book, paper), counts_of(book))
            self.assertIs(is_shown(book, paper), True)
            self.assertIs(is_shown(book=book, paper=paper[::-1]), True)
        self.assertEqual(check_paper(book=a_book(), paper=paper_of(book=a_book())), COUNTS)

    def test_the_witnesses(self):
        found = {row[:2]: row[2] for row in paper_of(a_book())}
        for key, witnesses in RIGHT.items():
            self.assertEqual(len(found[key]), len(witnesses))
            if key[0] == "formulas":
                self.assertEqual(check_paper(a_book(), ((*key, witnesses),)), [(*key, 3)])
            else:
                self.assertEqual(sorted(found[key], key=repr), sorted(witnesses, key=repr))
                self.assertEqual(check_paper(a_book(), ((*key, witnesses),)), [(*key, len(witnesses))])

    def test_fewer_witnesses_and_rows_show_less(self):
        book, paper = a_book(), paper_of(a_book())
        self.assertEqual(check_paper(book, ()), [])
        self.assertIs(is_shown(book, ()), False)
        for at, row in enumerate(paper):
            less = (*paper[:at], *paper[at + 1:])
            self.assertEqual(check_paper(book, less), COUNTS[:at] + COUNTS[at + 1:])
            self.assertIs(is_shown(book, less), False)
            if row[2]:
                fewer = (*paper[:at], (*row[:2], row[2][1:]), *paper[at + 1:])
                self.assertEqual(check_paper(book, fewer)[at], (*row[:2], COUNTS[at][2] - 1))
                self.assertIs(is_shown(book, fewer), False)
            else:
                self.assertEqual(row[2], ())

    def test_wrong_rows(self):
        book = a_book()
        first = ("strings", 0, ("x",))
        for value in [*ODD_VALUES, first, ("strings", 0, ()), ("strings", 1, ()), ("columns", 0, ()), ("columns", 4, ()), ("columns", -1, ()),
                      ("columns", True, ()), ("styles", False, ()), ("Styles", 0, ()), ("sheets", 0, ()), (None, 0, ()), (["styles"], 0, ()),
                      ("styles", None, ()), ("styles", 0, []), ("styles", 0), ("styles", 0, (), ()), ["styles", 0, ()], ("styles", 0, None),
                      ("cells", "1", ()), ("cells", 1.0, ()), ("formulas", 1, None), ("formulas", 9, ()), ("name", 0, ())]:
            self.assertEqual(caught(BadPaper, check_paper, book, (first, value, None)).at, 1)
            self.assertIs(is_shown(book, (*paper_of(book), value)), False)
        for value in [value for value in ODD_VALUES if not isinstance(value, tuple)]:
            self.assertIsNone(caught(BadPaper, check_paper, book, value).at)
            self.assertIs(is_shown(book, value), False)
        for sort in SHEET_SORTS:
            self.assertEqual(check_paper(book, ((sort, 3, ()), (sort, 2, ())))[0], (sort, 3, 0))
            self.assertEqual(caught(BadPaper, check_paper, book, ((sort, 3, ()), (sort, 2, ()), (sort, 3, ()))).at, 2)

    def test_wrong_witnesses(self):
        book = a_book()
        wrong = {("strings", 0): ["w", "X", 1, True], ("styles", 0): [PLAIN, (*BOLD[:3], (0, 0, 0, False), BOLD[4])], ("format", 0): ["", "0"],
                 ("font", 0): [PLAIN[1], ("Plain", 10, 1, False)], ("fill", 0): [None, 1, False], ("border", 0): [PLAIN[3], (0, 0, 0, True)],
                 ("align", 0): [PLAIN[4], ("left", 0)], ("columns", 1): [2, 4, 6, 0, True, 1.0], ("rows", 1): [3, True],
                 ("cells", 1): [(1, 3), (2, 3), (9, 9), (True, 1), [1, 1]], ("merges", 1): [(1, 1, 1, 2), (6, 1), (6, True, 7, 1)],
                 ("links", 1): [(2, 2), (True, True), "A1"], ("cells", 2): [(4, 1)], ("cells", 3): [(1, 1)],
                 ("formulas", 1): [(((1, 2), (1, 3)), ((1, 2), (2, 2))), (((1, 1), (2, 1)), ((1, 1), (1, 2))), ((1, 2), (2, 2)), 5]}
        for key, values in wrong.items():
            right = RIGHT.get(key, ())
            for value in [*values, *[value for value in ODD_VALUES if not value and value not in right], *right[:1], *right[-1:]]:
                paper = (("merges", 2, ()), (*key, (*right, value)), None)
                self.assertEqual(caught(BadPaper, check_paper, book, paper).at, 1, (key, value))

    def test_each_list_is_new(self):
        book = a_book()
        for call in (counts_of, lambda given: check_paper(given, paper_of(given)), lambda given: formula_cells(given.sheets[0])):
            before = call(book)
            call(book).append(None)
            self.assertEqual(call(book), before)


if __name__ == "__main__":
    unittest.main()
