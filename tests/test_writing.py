"""[44] to [47] and gridfile/writing.py: the parts of written files, their order, numbers and lines."""

import random
import unittest

from gridfile.canonical import breaches
from gridfile.counts import counts_of
from gridfile.errors import BadBook, NoPart
from gridfile.formulas import read_formula
from gridfile.lines import line_text, lines_of
from gridfile.links import ways
from gridfile.model import Book, Sheet
from gridfile.names import with_name
from gridfile.reading import complaints, read
from gridfile.tables import StyleTable, TextTable
from gridfile.values import PLAIN
from gridfile.writing import part_lines, paths_of, string_table, style_table, write
from support import ODD_VALUES, caught, random_book

BOLD = ("", ("Plain", 10, True, False), None, (0, 0, 0, 0), ("general", False))
RED = ('0 "x"', ("a b", 12, True, True), 255, (1, 2, 0, 3), ("left", True))
EDGE = ("", ("Plain", 10, False, True), 0, (1, 2, 0, 3), ("center", False))


def cell(row, column, value=None, formula=None, style=PLAIN):
    return ((row, column), value, None if formula is None else read_formula(formula), style)


def only_sheet(**parts):
    return Book([Sheet("S", **parts)])


def rows_of(book, path="sheets/1"):
    return write(book)[path].split("\n")


class Parts(unittest.TestCase):
    def test_an_empty_book(self):
        self.assertEqual(write(Book([Sheet("a")])), {"links": "links 1\nr1 book book", "book": 'book 1\nsheet 1 "a" r1',
                                                     "book.links": "links 1\nr1 sheet sheets/1", "sheets/1": "sheet 0"})

    def test_which_parts_there_are_in_which_order(self):
        text, style, link = cell(1, 1, "x"), cell(1, 2, None, None, BOLD), ((2, 2), "t")
        for cells, links, more in (((), (), []), ((text,), (), ["strings"]), ((style,), (), ["styles"]), ((text, style), (), ["strings", "styles"])):
            for targets, inner in (((), []), ((link,), ["sheets/2.links"])):
                book = Book([Sheet("a"), Sheet("b", cells=cells, links=targets), Sheet("c")])
                paths = ["links", "book", "book.links", *more, "sheets/1", "sheets/2", *inner, "sheets/3"]
                self.assertEqual(list(write(book=book)), paths)
                self.assertEqual(paths_of(book=book), tuple(paths))
                types = [(word, word) for word in more] + [("sheet", f"sheets/{at}") for at in (1, 2, 3)]
                self.assertEqual(rows_of(book, "book.links"), [f"links {len(types)}", *[f"r{at + 1} {sort} {path}" for at, (sort, path) in enumerate(types)]])
                self.assertEqual(rows_of(book, "book")[1:], [f'sheet {at} "{name}" r{len(more) + at}' for at, name in ((1, "a"), (2, "b"), (3, "c"))])

    def test_settings_alone_make_styles(self):
        for axis in ("columns", "rows"):
            book = only_sheet(**{axis: [(2, None, False, BOLD)]})
            self.assertEqual(rows_of(book, "styles"), ["styles 2", 'font 1 "Plain" 10 bold', "style 1 0 1 0 0 0"])
            self.assertEqual(paths_of(book)[3], "styles")

    def test_part_lines(self):
        chance = random.Random(1)
        for _ in range(20):
            book = random_book(chance)
            for path, text in write(book).items():
                lines = part_lines(book=book, path=path)
                self.assertIsInstance(lines, list)
                self.assertEqual("\n".join(line_text(line) for line in lines), text)
                self.assertEqual(lines[0][1], str(len(lines) - 1))
        lines = part_lines(book, "book")
        lines.clear()
        self.assertNotEqual(part_lines(book, "book"), [])

    def test_other_paths(self):
        book = only_sheet()
        for path in ("", "strings", "styles", "sheets/1.links", "sheets/2", "sheets/0", "Book", "book.links.links", "sheets", *ODD_VALUES):
            self.assertEqual(caught(NoPart, part_lines, book, path).path, path)
        for value in ODD_VALUES:
            for call in (write, paths_of, string_table, style_table):
                self.assertEqual(caught(BadBook, call, value).given, value)
            self.assertEqual(caught(BadBook, part_lines, value, "x").given, value)


class Numbers(unittest.TestCase):
    def test_strings_by_first_use(self):
        book = Book([Sheet("a", cells=[cell(1, 2, "y"), cell(1, 3, "x"), cell(2, 1, "y"), cell(2, 2, "")]),
                     Sheet("b", cells=[cell(1, 1, "z"), cell(1, 2, "x"), cell(3, 1, 'q "\\\n')])])
        self.assertEqual(rows_of(book, "strings"), ["strings 5", '1 "y"', '2 "x"', '3 ""', '4 "z"', '5 "q ""\\\\\\n"'])
        self.assertEqual(string_table(book=book).texts, ("y", "x", "", "z", 'q "\\\n'))
        self.assertIsInstance(string_table(book), TextTable)
        self.assertEqual(rows_of(book)[1:], ["cell B1 s1 0", "cell C1 s2 0", "cell A2 s1 0", "cell B2 s3 0"])
        self.assertEqual(rows_of(book, "sheets/2")[1:], ["cell A1 s4 0", "cell B1 s2 0", "cell A3 s5 0"])

    def test_texts_in_formulas_are_no_strings(self):
        self.assertNotIn("strings", write(only_sheet(cells=[cell(1, 1, None, '="x"')])))

    def test_styles_by_cells_then_columns_then_rows_and_parts_by_style_rows(self):
        book = Book([Sheet("a", cells=[cell(1, 1, 1, None, RED), cell(5, 5, 1, None, RED)], rows=[(1, None, False, BOLD)], columns=[(9, 5, False, EDGE)]),
                     Sheet("b", cells=[cell(1, 1, 1, None, EDGE), cell(1, 2, 1, None, ("", PLAIN[1], 255, PLAIN[3], PLAIN[4]))])])
        self.assertEqual(rows_of(book, "styles")[1:], [
            'format 1 "0 ""x"""', 'font 1 "a b" 12 bold italic', 'font 2 "Plain" 10 italic', 'font 3 "Plain" 10 bold', "fill 1 255", "fill 2 0",
            "border 1 1 2 0 3", "align 1 left wrap", "align 2 center", "style 1 1 1 1 1 1", "style 2 0 2 2 1 2", "style 3 0 3 0 0 0", "style 4 0 0 1 0 0"])
        table = style_table(book=book)
        self.assertIsInstance(table, StyleTable)
        self.assertEqual([table.style_at(number) for number in range(5)], [PLAIN, RED, EDGE, BOLD, ("", PLAIN[1], 255, PLAIN[3], PLAIN[4])])
        self.assertEqual(table.rows[1], (0, 2, 2, 1, 2))
        self.assertEqual(rows_of(book)[1:], ["columns I-I 5 2", "rows 1-1 - 3", "cell A1 1 1", "cell E5 1 1"])

    def test_tables_grow_from_nothing(self):
        chance = random.Random(2)
        for _ in range(20):
            book = random_book(chance)
            texts = [one[1] for sheet in book.sheets for one in sheet.cells if isinstance(one[1], str)]
            self.assertEqual(string_table(book).texts, TextTable().grown(texts).texts)
            styles = [one[3] for sheet in book.sheets for one in (*sheet.cells, *sheet.columns, *sheet.rows)]
            table = StyleTable().grown([style for style in styles if style != PLAIN])
            self.assertEqual((style_table(book).parts, style_table(book).rows), (table.parts, table.rows))

    def test_targets_of_each_sheet_by_first_use(self):
        links = [((1, 1), "t"), ((1, 2), "s"), ((2, 1), "t"), ((3, 3), 'a "b"\n')]
        book = Book([Sheet("a", links=links), Sheet("b", links=[((9, 9), "s")])])
        self.assertEqual(rows_of(book, "sheets/1.links"), ["links 3", 'r1 outer "t"', 'r2 outer "s"', 'r3 outer "a ""b""\\n"'])
        self.assertEqual(rows_of(book)[1:], ["link A1 r1", "link B1 r2", "link A2 r1", "link C3 r3"])
        self.assertEqual(rows_of(book, "sheets/2.links"), ["links 1", 'r1 outer "s"'])


class Lines(unittest.TestCase):
    def test_all_values(self):
        values = [None, True, False, 0, -7, 10 ** 15, -10 ** 15, ("error", "REF"), ("error", "NAME"), ("error", "VALUE"), ("error", "DIV"), "x"]
        book = only_sheet(cells=[cell(at + 1, 1, value, None, BOLD) for at, value in enumerate(values)])
        words = ["-", "true", "false", "0", "-7", str(10 ** 15), str(-10 ** 15), "#REF", "#NAME", "#VALUE", "#DIV", "s1"]
        self.assertEqual(rows_of(book)[1:], [f"cell A{at + 1} {word} 1" for at, word in enumerate(words)])

    def test_a_cell_with_a_formula_alone_has_no_cell_line(self):
        book = only_sheet(cells=[cell(1, 1, None, "=5"), cell(2, 1, 0, "=6"), cell(3, 1, None, "=7", BOLD)])
        self.assertEqual(rows_of(book)[1:], ["cell A2 0 0", "cell A3 - 1", 'formula A1:A1 "=5"', 'formula A2:A2 "=6"', 'formula A3:A3 "=7"'])

    def test_order_in_a_sheet(self):
        book = only_sheet(frozen=(0, 2), columns=[(1, 5, False, PLAIN), (27, None, True, BOLD)], rows=[(9999, 0, True, PLAIN)], hidden=True,
                          cells=[cell(1, 2, 1, "=1"), cell(2, 1, 2)], merges=[(3, 1, 4, 1), (3, 2, 3, 3)], links=[((1, 1), "t")])
        self.assertEqual(rows_of(book), ["sheet 10", "frozen 0 2", "columns A-A 5 0", "columns AA-AA - 1 hidden", "rows 9999-9999 0 0 hidden", "cell B1 1 0",
                                         "cell A2 2 0", 'formula B1:B1 "=1"', "merge A3:A4", "merge B3:C3", "link A1 r1"])
        self.assertEqual(rows_of(book, "book"), ["book 1", 'sheet 1 "S" r2 hidden'])

    def test_runs_of_settings(self):
        settings = [(1, 5, False, PLAIN), (2, 5, False, PLAIN), (3, 5, True, PLAIN), (4, 5, True, BOLD), (5, 5, True, BOLD), (7, 5, True, BOLD)]
        book = only_sheet(columns=settings, rows=settings)
        ends = [("A", "B", "5 0"), ("C", "C", "5 0 hidden"), ("D", "E", "5 1 hidden"), ("G", "G", "5 1 hidden")]
        self.assertEqual(rows_of(book)[1:5], [f"columns {first}-{last} {rest}" for first, last, rest in ends])
        rows = [(1, 2, "5 0"), (3, 3, "5 0 hidden"), (4, 5, "5 1 hidden"), (7, 7, "5 1 hidden")]
        self.assertEqual(rows_of(book)[5:], [f"rows {first}-{last} {rest}" for first, last, rest in rows])

    def test_formula_lines_down_and_along(self):
        down = only_sheet(cells=[cell(row, 2, None, f"=A{row}") for row in (1, 2, 3)])
        self.assertEqual(rows_of(down)[1:], ['formula B1:B3 "=RC[-1]"'])
        along = only_sheet(cells=[cell(2, column, None, f"={name}1+$A$1") for column, name in ((2, "B"), (3, "C"), (4, "D"))])
        self.assertEqual(rows_of(along)[1:], ['formula B2:D2 "=R[-1]C+R1C1"'])
        both = only_sheet(cells=[cell(1, 1, None, "=#REF!"), cell(2, 1, None, "=#REF!"), cell(2, 2, None, "=#REF!"), cell(2, 3, None, "=#REF!")])
        self.assertEqual(rows_of(both)[1:], ['formula A1:A2 "=#REF!"', 'formula B2:C2 "=#REF!"'])
        quoted = only_sheet(cells=[cell(1, 1, None, '="a ""b"""&\'x y\'!A1')])
        self.assertEqual(rows_of(quoted)[1:], ['formula A1:A1 "=""a """"b""""""&\'x y\'!RC"'])

    def test_the_lines_of_a_book(self):
        book = Book([Sheet("Data"), Sheet("a b", hidden=True), Sheet("C")], active=2)
        fixed = ("cell", "Data", (1, 2, True, True))
        for scope, word, tree in ((None, "b", fixed), ("C", "a", ("cell", None, (3, 3, True, True))), ("a b", "z", ("name", "b")), (None, "a", ("text", '"')),
                                  ("a b", "B", ("number", 1))):
            book = with_name(book, scope, word, tree)
        self.assertEqual(rows_of(book, "book"), ["book 9", "active 2", 'sheet 1 "Data" r1', 'sheet 2 "a b" r2 hidden', 'sheet 3 "C" r3', 'name - a "="""""""""',
                                                 'name - b "=Data!$B$1"', 'name 2 B "=1"', 'name 2 z "=b"', 'name 3 a "=$C$3"'])


class Facts(unittest.TestCase):
    def test_it_is_read_back_without_complaints(self):
        chance = random.Random(3)
        known = {}
        for _ in range(150):
            book = random_book(chance)
            file = write(book)
            self.assertEqual((complaints(file), breaches(file)), ([], []))
            self.assertTrue(read(file).is_same(book))
            # Each part is reached in one way, and all parts are.
            self.assertEqual(sorted(ways(file)), sorted(file))
            key = repr(sorted(file.items()))
            self.assertTrue(key not in known or known[key].is_same(book))
            known[key] = book

    def test_there_are_as_many_lines_as_the_counts_say(self):
        chance = random.Random(4)
        words = {"columns": "columns", "rows": "rows", "cells": "cell", "formulas": "formula", "merges": "merge", "links": "link"}
        for _ in range(100):
            book = random_book(chance)
            lines = {path: [line[0] for line in lines_of(text)[1:]] for path, text in write(book).items()}
            for sort, number, count in counts_of(book):
                if number == 0:
                    path = "strings" if sort == "strings" else "styles"
                    told = lines.get(path, []) if sort == "strings" else [word for word in lines.get(path, []) if word == ("style" if sort == "styles" else sort)]
                else:
                    told = [word for word in lines[f"sheets/{number}"] if word == words[sort]]
                self.assertEqual(len(told), count, (sort, number))

    def test_the_greatest_books(self):
        cells = [((row, column), f"t{row}", ("cell", None, (row, 9, False, False)), BOLD) for row in range(1, 501) for column in range(1, 5)]
        links = [((row, column), f"t{row}{column}") for row in range(1, 501) for column in range(6, 10)]
        merges = [(row, 701, row, 702) for row in range(1, 301)]
        sheet = Sheet("x" * 31, cells=cells, links=links, merges=merges, frozen=(9999, 702),
                      rows=[(row, 1000, True, BOLD) for row in range(1, 10000)], columns=[(column, 0, False, PLAIN) for column in range(1, 703)])
        names = tuple((None, f"n_{at:03}", ("name", f"n_{at - 1:03}") if at else ("number", 0)) for at in range(200))
        book = Book([sheet, *[Sheet(f"s{at}") for at in range(29)]], active=30, names=names)
        file = write(book)
        self.assertEqual((complaints(file), breaches(file)), ([], []))
        self.assertTrue(read(file).is_same(book))

    def test_the_examples(self):
        book = Book([Sheet("a b", cells=[((1, 1), "x", None, PLAIN), ((2, 1), "x", ("number", 5), PLAIN)])])
        self.assertEqual(list(write(book)), ["links", "book", "book.links", "strings", "sheets/1"])
        self.assertEqual(write(book)["sheets/1"], 'sheet 3\ncell A1 s1 0\ncell A2 s1 0\nformula A2:A2 "=5"')
        self.assertEqual(part_lines(book, "book"), [("book", "1"), ("sheet", "1", ("a b",), "r2")])


if __name__ == "__main__":
    unittest.main()
