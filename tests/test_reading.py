"""[51] to [56] and gridfile/reading.py: the lines of each kind, kept lines, complaints, and the book that is read."""

import random
import unittest

from gridfile.errors import BadFile, BadLine, BadWord
from gridfile.formulas import read_formula
from gridfile.lines import line_of, lines_of
from gridfile.model import Book
from gridfile.reading import CODES, KINDS, Reading, complaints, disagree, is_clean, is_greatest, read, word_of
from gridfile.values import PLAIN
from gridfile.writing import write
from support import ODD_VALUES, caught, random_book, remade

BOLD = ("", ("Plain", 10, True, False), None, (0, 0, 0, 0), ("general", False))
TOO_LONG = "x" * 201
DEEP = "=" + "-" * 20 + "1"
HEAVY = "=" + "+".join(["Data!A1:B2"] * 31)
# For each kind right lines, with the word of their sort.
RIGHT = {
    "links": [("book", ["r1 book b", "r9999999 book sheets/1"])],
    "parts": [("strings", ["r1 strings s"]), ("styles", ["r2 styles links2"]), ("sheet", ["r9999999 sheet a.b"])],
    "outer": [("outer", ['r1 outer "x"', 'r2 outer "a ""b"" \\\\ \\n"', 'r3 outer "' + "x" * 200 + '"'])],
    "book": [("active", ["active 1", "active 9999999"]), ("sheet", ['sheet 1 "a b" r2', 'sheet 9999999 "' + "x" * 31 + '" r9999999 hidden']),
             ("name", ['name - rate "=5"', 'name 3 _x "=A1+$B$2"'.replace("A1", "$A$1"), 'name - b "=Data!$A$1"', 'name 1 b "=k"', 'name 9999999 a "= ( 5 ) "'])],
    "strings": [("string", ['1 "x"', '9999999 ""', '2 "a ""b"" \\\\ \\n"', '3 "' + "x" * 200 + '"'])],
    "styles": [("format", ['format 1 "0.0"', 'format 2 "' + "x" * 40 + '"', 'format 3 " ""\\\\"']),
               ("font", ['font 1 "Plain" 11', 'font 1 "Plain" 10 bold', 'font 1 "Plain" 10 italic', 'font 9 "a b" 400 bold italic', 'font 1 "x" 1', 'font 1 "plain" 10']),
               ("fill", ["fill 1 0", "fill 2 16777215"]), ("border", ["border 1 1 2 0 3", "border 1 0 0 0 1"]),
               ("align", ["align 1 left", "align 1 general wrap", "align 2 center wrap", "align 3 right"]),
               ("style", ["style 1 1 0 0 0 0", "style 9999999 0 0 0 0 9999999", "style 2 1 2 3 4 5"])],
    "sheet": [("frozen", ["frozen 1 0", "frozen 0 1", "frozen 9999 702"]),
              ("columns", ["columns A-A 5 0", "columns A-ZZ 0 0", "columns B-C - 0 hidden", "columns C-AA 1000 9999999 hidden", "columns A-A - 1"]),
              ("rows", ["rows 1-1 5 0", "rows 1-9999 0 0", "rows 3-5 - 7", "rows 9-10 - 0 hidden"]),
              ("cell", ["cell A1 5 0", "cell ZZ9999 -1 0", "cell A1 0 0", "cell B2 - 1", "cell A1 true 0", "cell A1 false 9999999", "cell A1 s1 0",
                        "cell A1 s9999999 2", "cell A1 #REF 0", "cell A1 #NAME 0", "cell A1 #VALUE 0", "cell A1 #DIV 0", f"cell A1 {10 ** 15} 0",
                        f"cell A1 -{10 ** 15} 0"]),
              ("formula", ['formula A1:A1 "=5"', 'formula A1:A9 "=RC[1]"', 'formula A2:C2 "=R[-1]C"', 'formula A1:A2 "= ( 5 )"', 'formula A1:A1 "=R[-1]C"']),
              ("merge", ["merge A1:B1", "merge A1:A2", "merge A1:ZZ9999"]), ("link", ["link A1 r1", "link ZZ9999 r9999999"])],
}
HEADERS = {"links": "links", "book": "book", "parts": "links", "strings": "strings", "styles": "styles", "sheet": "sheet", "outer": "links"}
# For each kind lines that are wrong by one item.
WRONG = {
    "links": ["r0 book b", "r10000000 book b", "r01 book b", "R1 book b", "r1 book", "r1 book b b", 'r1 book "b"', "r1 book links", "r1 book b.links",
              "r1 sheet b", "r1 strings b", 'r1 outer "b"', "book r1 b", "1 book b"],
    "parts": ["r1 book b", 'r1 outer "b"', "r1 outer b", "r1 sheets b", "r0 sheet b", "r1 sheet b hidden", "r1 strings", "r1 styles links"],
    "outer": ["r1 outer b", 'r1 outer ""', f'r1 outer "{TOO_LONG}"', "r1 book b", "r1 sheet b", 'r01 outer "b"', 'r1 outer "b" "c"'],
    "book": ["active", "active 0", "active 01", "active 10000000", "active -", "active 1 1", "active r1", 'active "1"', 'sheet 0 "a" r1', 'sheet 01 "a" r1', 'sheet "a" r1',
             "sheet 1 a r1", 'sheet 1 "a/b" r1', 'sheet 1 "" r1', 'sheet 1 " a" r1', 'sheet 1 "' + "x" * 32 + '" r1', 'sheet 1 "a" 1', 'sheet 1 "a" r0', 'sheet 1 "a"',
             'sheet 1 "a" r1 hidden hidden', 'sheet 1 "a" r1 Hidden', 'sheet 1 "a" r1 "hidden"', 'sheet 1 "a" hidden', 'sheet 1 "a" r1 -', 'sheet - "a" r1',
             'name 0 a "=5"', 'name 01 a "=5"', 'name -1 a "=5"', 'name - a1 "=5"', 'name - R "=5"', 'name - TRUE "=5"', 'name - "a" "=5"', "name - a =5",
             'name - a "5"', 'name - a "=5" "=5"', 'name - a', 'name - a "=(5"', 'name 1 a "=A1"', 'name 1 a "=$A1"', 'name 1 a "=A$1"', 'name 1 a "=$A$1:A1"',
             'name - a "=$A$1"', 'name - a "=Data!A1"', 'name - a "=Data!$A$1+$B$1"', f'name - a "{DEEP}"', f'name - a "{HEAVY}"', 'name - ' + "x" * 21 + ' "=5"',
             'names - a "=5"', "book 1 1", "?"],
    "strings": ['0 "x"', '01 "x"', '10000000 "x"', '-1 "x"', "1 x", "1", '1 "x" "y"', f'1 "{TOO_LONG}"', '"1" "x"', 's1 "x"', 'string 1 "x"'],
    "styles": ['format 1 ""', 'format 1 "' + "x" * 41 + '"', 'format 1 "a\\n"', "format 1 x", 'format 0 "x"', 'format 01 "x"', 'format 1', 'format 1 "x" "y"',
               'font 1 "Plain" 10', 'font 1 "" 10 bold', 'font 1 "' + "x" * 32 + '" 10', 'font 1 "x" 0', 'font 1 "x" 401', 'font 1 "x" 010', 'font 1 "x" -', 'font 1 "x"',
               "font 1 x 10", 'font 1 "x" 10 italic bold', 'font 1 "x" 10 bold bold', 'font 1 "x" 10 Bold', 'font 1 "x" 10 bold italic bold', 'font 1 "x" bold',
               'font 1 "a\\nb" 10', "fill 1 -", "fill 1 16777216", "fill 1 00", "fill 1", "fill 1 1 1", 'fill 1 "1"', "fill 0 1", "border 1 0 0 0 0", "border 1 1 2 0",
               "border 1 1 2 0 4", "border 1 1 2 0 3 0", "border 1 1 2 0 03", "border 1 1 2 0 -", "align 1 general", "align 1 top", "align 1 wrap", "align 1 left wrap wrap",
               "align 1 Left", 'align 1 "left"', "align 1 left Wrap", "align 1", "style 1 0 0 0 0 0", "style 0 1 0 0 0 0", "style 1 1 0 0 0", "style 1 1 0 0 0 0 0",
               "style 1 01 0 0 0 0", "style 1 10000000 0 0 0 0", "style 1 - 0 0 0 0", "style 1 1 0 0 0 -1", "style", "format", "styles 1 1"],
    "sheet": ["frozen 0 0", "frozen 1", "frozen 1 0 0", "frozen 10000 0", "frozen 0 703", "frozen 01 0", "frozen - 1", "columns A-A - 0", "columns B-A 5 0", "columns A 5 0",
              "columns A:B 5 0", "columns A-AAA 5 0", "columns a-b 5 0", "columns 1-2 5 0", "columns A-B 1001 0", "columns A-B 05 0", "columns A-B 5", "columns A-B 5 -",
              "columns A-B 5 0 hidden hidden", "columns A-B 5 0 wrap", "columns A-B hidden", "columns A-B -1 0", 'columns "A-B" 5 0', "columns A-B-C 5 0", "columns A- 5 0",
              "columns A-B 5 10000000", "rows 1-1 - 0", "rows 2-1 5 0", "rows 0-1 5 0", "rows 1-10000 5 0", "rows 01-2 5 0", "rows A-B 5 0", "rows 1 5 0", "rows 1-2 5 01",
              "cell A1 - 0", "cell A1 -0 0", "cell A1 00 0", "cell A1 01 0", "cell A1 -01 0", "cell A1 +1 0", "cell A1 1.0 0", f"cell A1 {10 ** 15 + 1} 0", f"cell A1 -{10 ** 15 + 1} 0",
              "cell A1 s0 0", "cell A1 s01 0", "cell A1 s 0", "cell A1 s10000000 0", "cell A1 True 0", "cell A1 TRUE 0", 'cell A1 "x" 0', "cell A1 #REF! 0", "cell A1 #NUM 0",
              "cell A1 REF 0", "cell A0 1 0", "cell A01 1 0", "cell a1 1 0", "cell AAA1 1 0", "cell A10000 1 0", "cell 1A 1 0", "cell A1 1", "cell A1 1 0 0", "cell A1 1 00",
              "cell A1 1 10000000", "cell A1 1 -", "cell A1 -- 0", "cell A1 - -", 'formula A1 "=5"', 'formula A1:B2 "=5"', 'formula A2:A1 "=5"', "formula A1:A1 =5", 'formula A1:A1 "5"',
              'formula A1:A1 "=A1"', 'formula A1:A1 "=R[0]C"', 'formula A1:A1 "=R01C"', 'formula A1:A1 "=RC"  ', 'formula A1:A1 "=(RC"', f'formula A1:A1 "{DEEP}"', 'formula A1:A1',
              'formula A1:A1 "=5" "=5"', 'formula A1:A1 "=R[9999]C"', "merge A1:A1", "merge A1", "merge B2:A1", "merge A1:B2 A1", "merge A1-B2", "link A1 1", "link A1 r0", "link A1",
              "link A1 r01", "link A0 r1", 'link A1 "x"', "link A1 r1 r1", "cells A1 1 0", "?", 'Frozen 1 0'],
}


def file_of(sheet=None, book=None, parts=None, **more):
    """A file with these lines of its sheet, book and relationships; each text gets its header, other parts are told by their lines."""
    lines = {"links": ["r1 book b"], "b": ['sheet 1 "Data" r1'] if book is None else book, "b.links": ["r1 sheet s"] if parts is None else parts,
             "s": [] if sheet is None else sheet, **{path.replace("_", "."): rows for path, rows in more.items()}}
    words = {"links": "links", "b": "book", "strings": "strings", "styles": "styles"}
    return {path: "\n".join([f"{words.get(path, 'links' if path.endswith('.links') else 'sheet')} {len(rows)}", *rows]) for path, rows in lines.items()}


def with_tables(sheet, strings=(), styles=(), outer=()):
    """A file with a string table, a style table and links."""
    return file_of(sheet=sheet, parts=["r1 sheet s", "r2 strings strings", "r3 styles styles"], strings=list(strings), styles=list(styles), s_links=list(outer))


def told(file, path):
    """The complaints about one part, without its path."""
    return [row[1:] for row in complaints(file) if row[0] == path]


class Kinds(unittest.TestCase):
    def test_codes_and_kinds(self):
        self.assertEqual(CODES, ("line", "again", "lost", "off", "ring", "full", "part", "alone", "count"))
        self.assertEqual(KINDS, ("links", "book", "parts", "strings", "styles", "sheet", "outer"))

    def test_right_lines(self):
        for kind, sorts in RIGHT.items():
            for word, texts in sorts:
                for text in texts:
                    self.assertEqual(word_of(kind, line_of(text)), word, text)
                    self.assertTrue(is_greatest(kind, text, () if "R[-1]C" in text and ":A1" in text else (1,)), text)
        self.assertEqual(word_of(kind="strings", line=("1", ("x",))), "string")

    def test_wrong_lines(self):
        for kind, texts in WRONG.items():
            for text in texts:
                line = lines_of(text)[0]
                if line is not None:
                    self.assertIsNone(word_of(kind, line), text)
                self.assertTrue(is_greatest(kind, text, ()), text)

    def test_headers(self):
        for kind, word in HEADERS.items():
            for number in ("0", "7", "9999999"):
                self.assertEqual(word_of(kind, (word, number)), "header")
            for line in ((word,), (word, "01"), (word, "10000000"), (word, "-1"), (word, "-"), (word, ("1",)), (word, "1", "1"), (word.upper(), "1"), ("1", word), ((word,), "1")):
                self.assertIsNone(word_of(kind, line), line)
            for other in ("links", "book", "strings", "styles", "sheet", "outer", "parts"):
                if other != word:
                    self.assertIsNone(word_of(kind, (other, "1")), (kind, other))

    def test_lines_of_other_kinds(self):
        for kind in KINDS:
            for other, sorts in RIGHT.items():
                if other != kind:
                    for _, texts in sorts:
                        for text in texts:
                            self.assertIsNone(word_of(kind, line_of(text)), (kind, text))

    def test_wrong_arguments(self):
        for value in ("", "Book", "book ", *ODD_VALUES):
            self.assertEqual(caught(BadWord, word_of, value, None).given, value)
            self.assertEqual(caught(BadWord, disagree, value, None, None).given, value)
            self.assertEqual(caught(BadWord, is_greatest, value, None, None).given, value)
        for value in ((), ("a b",), (1,), ["links", "1"], *[value for value in ODD_VALUES if value not in (("A", "B"), ("error",), (("x",),))]):
            self.assertEqual(caught(BadLine, word_of, "book", value).given, value)
            self.assertEqual(caught(BadLine, disagree, "book", value, None).given, value)
            self.assertEqual(caught(BadLine, disagree, "book", ("active", "1"), value).given, value)
        for line in (("book", "1"), ("x",), ("active", "01"), ("sheet", "1")):
            self.assertEqual(caught(BadLine, disagree, "book", line, line).given, line)
            self.assertEqual(caught(BadLine, disagree, "book", ("active", "1"), line).given, line)
        for value in ODD_VALUES:
            if not isinstance(value, str):
                self.assertIsNone(caught(BadLine, is_greatest, "book", value, ()).given)


# Lines of one kind that disagree, and lines beside them that do not.
DISAGREE = {
    "links": [("r1 book a", "r1 book b"), ("r1 book a", "r2 book a"), ("r1 book a", "r2 book b")],
    "parts": [("r1 strings a", "r2 strings b"), ("r1 styles a", "r2 styles b"), ("r1 strings a", "r1 styles b"), ("r1 sheet a", "r2 strings a"), ("r1 sheet a", "r2 sheet a"),
              ("r1 sheet a", "r1 sheet b")],
    "outer": [('r1 outer "a"', 'r1 outer "b"'), ('r1 outer "a"', 'r1 outer "a"')],
    "book": [("active 1", "active 2"), ('sheet 1 "a" r1', 'sheet 1 "b" r2'), ('sheet 1 "a" r1', 'sheet 2 "b" r1'), ('sheet 1 "a" r1', 'sheet 2 "A" r2'),
             ('name - a "=1"', 'name - a "=2"'), ('name 3 a "=1"', 'name 3 a "=1"')],
    "strings": [('1 "a"', '1 "b"')],
    "styles": [('format 1 "a"', 'format 1 "b"'), ("fill 1 1", "fill 1 2"), ("style 1 1 0 0 0 0", "style 1 0 1 0 0 0")],
    "sheet": [("frozen 1 0", "frozen 0 1"), ("cell A1 1 0", "cell A1 2 0"), ('formula A1:A3 "=1"', 'formula A3:B3 "=1"'), ("link A1 r1", "link A1 r2"),
              ("columns A-C 1 0", "columns C-D 1 0"), ("rows 1-9999 1 0", "rows 5-5 2 0"), ("merge A1:B2", "merge B2:C3"), ("merge A1:C3", "merge B2:B3"),
              ("merge A1:B2", "cell B1 1 0"), ("merge A1:B2", "cell A2 s9 0"), ("merge A1:B2", "link B2 r1"), ("merge A1:B2", 'formula B2:B9 "=1"'),
              ("merge B2:C3", 'formula A2:B2 "=1"'.replace("A2:B2", "C1:C2")), ("merge A1:B2", 'formula A1:A2 "=1"')],
}
AGREE = {
    "parts": [("r1 strings a", "r2 styles b"), ("r1 sheet a", "r2 sheet b"), ("r1 sheet a", "r10 strings b")],
    "outer": [('r1 outer "a"', 'r2 outer "a"')],
    "book": [("active 1", 'sheet 1 "a" r1'), ('sheet 1 "a" r1', 'sheet 2 "b" r2'), ('name - a "=1"', 'name 1 a "=1"'), ('name 1 a "=1"', 'name 2 a "=1"'),
             ('name - a "=1"', 'name - A "=1"'), ('name - a "=b"', 'name - b "=a"')],
    "strings": [('1 "a"', '2 "a"'), ('1 "a"', '11 "a"')],
    "styles": [('format 1 "a"', "fill 1 1"), ('format 1 "a"', 'format 2 "a"'), ("style 1 1 0 0 0 0", "style 2 1 0 0 0 0"), ("style 1 1 0 0 0 0", 'format 1 "a"')],
    "sheet": [("cell A1 1 0", 'formula A1:A1 "=1"'), ("cell A1 1 0", "link A1 r1"), ("cell A1 1 0", "cell A2 1 0"), ('formula A1:A3 "=1"', 'formula A4:A5 "=1"'),
              ('formula A1:A3 "=1"', 'formula B1:C1 "=1"'), ("columns A-C 1 0", "columns D-D 1 0"), ("columns A-C 1 0", "rows 1-3 1 0"), ("merge A1:B2", "merge C1:C2"),
              ("merge A1:B2", "merge A3:B3"), ("merge A1:B2", "cell A1 1 0"), ("merge A1:B2", "cell B1 - 1"), ("merge A1:B2", "cell C1 1 0"), ("merge A1:B2", "link A1 r1"),
              ("merge B2:C3", 'formula B1:B2 "=1"'), ("merge B2:C3", 'formula A2:B2 "=1"'), ("frozen 1 0", "rows 1-1 1 0"), ('formula A1:A3 "=1"', "link A2 r1")],
}


class Disagreeing(unittest.TestCase):
    def test_lines_that_disagree(self):
        for kind, rows in DISAGREE.items():
            for one, other in rows:
                for first, second in ((one, other), (other, one)):
                    self.assertIs(disagree(kind, line_of(first), line_of(second)), True, (first, second))
                    text = f"{first}\n{second}"
                    self.assertTrue(is_greatest(kind, text, (1,)), text)
                    self.assertFalse(is_greatest(kind, text, (1, 2)), text)
                    self.assertFalse(is_greatest(kind, text, (2,)), text)

    def test_lines_that_agree(self):
        for kind, rows in AGREE.items():
            for one, other in rows:
                for first, second in ((one, other), (other, one)):
                    self.assertIs(disagree(kind, one=line_of(first), other=line_of(second)), False, (first, second))
                    if "=a" not in text_of(first, second):
                        self.assertTrue(is_greatest(kind, f"{first}\n{second}", (1, 2)), (first, second))

    def test_lines_agree_with_themselves_only_if_they_claim_nothing(self):
        for kind, sorts in RIGHT.items():
            for _, texts in sorts:
                for text in texts:
                    self.assertTrue(disagree(kind, line_of(text), line_of(text)), text)

    def test_kept_lines_are_found_line_by_line(self):
        chance = random.Random(5)
        for kind, sorts in RIGHT.items():
            pool = [text for _, texts in sorts for text in texts] + [text for rows in (*DISAGREE.get(kind, []), *AGREE.get(kind, [])) for text in rows] + WRONG[kind][:3]
            pool = [text for text in pool if "=b" not in text and "=a" not in text]
            for _ in range(60):
                rows = [chance.choice(pool) for _ in range(chance.randint(0, 12))]
                kept, against = [], {}
                for at, row in enumerate(rows):
                    line = lines_of(row)[0]
                    if line is not None and word_of(kind, line) is not None and not row.startswith('formula A1:A1 "=R[-1]C"'):
                        first = [other for other in kept if disagree(kind, lines_of(rows[other - 1])[0], line)]
                        if first:
                            against[at + 1] = first[0]
                        else:
                            kept.append(at + 1)
                self.assertTrue(is_greatest(kind, "\n".join(rows), tuple(kept)), rows)
                if kind == "sheet" and rows:
                    again = {row[0]: row[2] for row in told(file_of(sheet=rows), "s") if row[1] == "again"}
                    self.assertEqual(again, {at + 1: line + 1 for at, line in against.items()}, rows)


def text_of(*rows):
    return "\n".join(rows)


class Greatest(unittest.TestCase):
    def test_right_and_wrong_numbers(self):
        text = 'strings 4\n1 "a"\n1 "b"\n?\n2 "a"'
        self.assertIs(is_greatest(kind="strings", text=text, kept=(2, 5)), True)
        for kept in ((), (2,), (5,), (5, 2), (2, 2, 5), (1, 2, 5), (2, 3, 5), (2, 4, 5), (2, 5, 6), (3, 5), [2, 5], (2, 5.0), (2, "5"), (True, 5), {2: 5}, ((2, 5),), *ODD_VALUES):
            if kept != (2, 5) or not isinstance(kept, tuple):
                self.assertIs(is_greatest("strings", text, kept), False, kept)
        self.assertFalse(is_greatest("strings", '1 "a"', (True,)))
        self.assertTrue(is_greatest("strings", "", ()))
        self.assertTrue(is_greatest("strings", "strings 0", ()))

    def test_what_the_part_alone_does_not_tell(self):
        # A relationship may lead to the path of the book part, which only the whole file tells.
        self.assertTrue(is_greatest("parts", "links 1\nr1 sheet b", (2,)))
        self.assertEqual(told(file_of(parts=["r1 sheet b", "r2 sheet s"]), "b.links"), [(2, "again", None)])

    def test_any_file(self):
        chance = random.Random(6)
        for _ in range(20):
            file = write(random_book(chance))
            reading = Reading(file)
            for path, kind in reading.kinds:
                self.assertTrue(is_greatest(kind, file[path], tuple(number for one, number in reading.kept if one == path)))


class Files(unittest.TestCase):
    def test_a_clean_file(self):
        file = file_of()
        reading = Reading(file=file)
        self.assertEqual((reading.complaints, complaints(file), is_clean(file)), ((), [], True))
        self.assertEqual(reading.kept, (("b", 2), ("b.links", 2), ("links", 2)))
        self.assertEqual(reading.kinds, (("b", "book"), ("b.links", "parts"), ("links", "links"), ("s", "sheet")))
        self.assertEqual([sheet.name for sheet in read(file=file).sheets], ["Data"])

    def test_parts_that_are_missing(self):
        self.assertEqual(complaints({}), [("links", 0, "part", None)])
        self.assertEqual([sheet.name for sheet in read({}).sheets], ["Sheet1"])
        self.assertEqual(complaints({"b": ""}), [("b", 0, "alone", None), ("links", 0, "part", None)])
        self.assertEqual(complaints({"links": "links 1\nr1 book b"}), [("links", 2, "part", None)])
        self.assertEqual(complaints({"links": "links 1\nr1 book b", "b.links": ""}), [("b.links", 0, "alone", None), ("links", 2, "part", None)])
        self.assertEqual(complaints({"links": "links 1\nr1 book b", "b": "book 0"}), [])
        file = file_of(parts=["r1 sheet s", "r2 strings t", "r3 styles u", "r4 sheet v"], book=['sheet 1 "a" r1', 'sheet 2 "b" r4'], sheet=["cell A1 s1 0"], v_links=["?"])
        self.assertEqual(complaints(file), [("b.links", 3, "part", None), ("b.links", 4, "part", None), ("b.links", 5, "part", None), ("s", 2, "lost", None),
                                            ("v.links", 0, "alone", None)])
        self.assertEqual([len(sheet.cells) for sheet in read(file).sheets], [0, 0])

    def test_parts_that_are_alone(self):
        file = {**file_of(), "x": "", "s.links.links": "", "links.links": "", "": "", "a b": "", "strings": "strings 0"}
        self.assertEqual(complaints(file), [(path, 0, "alone", None) for path in ("", "a b", "links.links", "s.links.links", "strings", "x")])
        # A second book is not read, nor what a sheet of no book leads to.
        file = {**file_of(), "links": "links 2\nr1 book b\nr2 book c", "c": "book 0"}
        self.assertEqual(complaints(file), [("c", 0, "alone", None), ("links", 3, "again", 2)])

    def test_a_sheet_part_that_no_sheet_uses_is_read(self):
        file = file_of(parts=["r1 sheet s", "r2 sheet t"], t=["cell A1 s1 0", "?"], t_links=["?"])
        self.assertEqual(complaints(file), [("t", 2, "lost", None), ("t", 3, "line", None), ("t.links", 2, "line", None)])

    def test_values_that_are_no_files(self):
        for call in (read, complaints, is_clean, Reading):
            for value in ODD_VALUES:
                if not isinstance(value, dict):
                    self.assertIsNone(caught(BadFile, call, value).given)
            for key, text in ((1, "x"), ("a", None), (None, ""), ((), ""), ("a", b"")):
                self.assertEqual(caught(BadFile, call, {"links": "", key: text, 2: 2}).given, key)

    def test_the_order_of_the_keys_means_nothing(self):
        chance = random.Random(7)
        file = {**file_of(sheet=["?", "cell A1 1 0", "cell A1 1 0"], s_links=["?"]), "x": "", "y": "?"}
        for _ in range(10):
            keys = list(file)
            chance.shuffle(keys)
            shuffled = {key: file[key] for key in keys}
            self.assertEqual(complaints(shuffled), complaints(file))
            self.assertTrue(read(shuffled).is_same(read(file)))
            self.assertEqual((Reading(shuffled).kept, Reading(shuffled).kinds), (Reading(file).kept, Reading(file).kinds))

    def test_nothing_is_kept_or_changed(self):
        file = file_of(sheet=["cell A1 1 0", "?"])
        before = dict(file)
        reading = Reading(file)
        complaints(file).clear()
        self.assertEqual(file, before)
        file.clear()
        self.assertEqual((len(reading.complaints), len(reading.book.sheets[0].cells)), (1, 1))
        self.assertEqual(complaints(before), [("s", 3, "line", None)])


class Headers(unittest.TestCase):
    def test_wrong_counts(self):
        for number in (0, 2, 9999999):
            file = {**file_of(), "s": f"sheet {number}\ncell A1 1 0"}
            self.assertEqual(complaints(file), [("s", 1, "count", None)])
            self.assertEqual(read(file).sheets[0].cells[0][1], 1)

    def test_no_header(self):
        for first in ("?", "", "book 1", "sheet", "sheet 01", "sheet 1 1", 'sheet "1"', "Sheet 1"):
            file = {**file_of(), "s": f"{first}\ncell A1 1 0"}
            self.assertEqual(complaints(file), [("s", 1, "line", None), ("s", 1, "count", None)])
            self.assertEqual(read(file).sheets[0].cells[0][1], 1)
        file = {**file_of(), "s": "cell A1 1 0\ncell A1 2 0"}
        self.assertEqual(complaints(file), [("s", 1, "count", None), ("s", 2, "again", 1)])
        self.assertEqual(Reading(file).kept[-1], ("s", 1))

    def test_two_codes_of_the_first_line(self):
        file = {**file_of(), "s": "cell A1 s1 0"}
        self.assertEqual(complaints(file), [("s", 1, "lost", None), ("s", 1, "count", None)])
        file = {**file_of(), "s": 'formula A1:A1 "=R[-1]C"'}
        self.assertEqual(complaints(file), [("s", 1, "off", None), ("s", 1, "count", None)])
        file = {**file_of(), "b.links": "r1 sheet x\nr2 sheet s"}
        self.assertEqual(complaints(file), [("b.links", 1, "part", None), ("b.links", 1, "count", None)])

    def test_a_second_header(self):
        file = {**file_of(), "s": "sheet 2\nsheet 2\ncell A1 1 0"}
        self.assertEqual(complaints(file), [("s", 2, "line", None)])

    def test_an_empty_text_has_one_empty_line(self):
        file = {**file_of(), "s": ""}
        self.assertEqual(complaints(file), [("s", 1, "line", None), ("s", 1, "count", None)])
        file = {**file_of(), "s": "sheet 0\n"}
        self.assertEqual(complaints(file), [("s", 1, "count", None), ("s", 2, "line", None)])
        self.assertEqual(complaints({"links": ""}), [("links", 1, "line", None), ("links", 1, "count", None)])
        # The header is no kept line.
        self.assertEqual(Reading({"links": "links 0"}).kept, ())


class Kept(unittest.TestCase):
    def test_off(self):
        rows = ['formula A1:A1 "=R[-1]C"', 'formula A2:A9999 "=R[-1]C"', 'formula B1:B2 "=R[9997]C"', 'formula B3:B4 "=R[9997]C"', 'formula C1:D1 "=RC[-4]"', 'formula E1:F1 "=RC[-4]"',
                'formula G1:G1 "=R[9998]C+R[-1]C"', 'formula H1:H3 "=R9999C702"']
        self.assertEqual(told(file_of(sheet=rows), "s"), [(2, "off", None), (3, "full", None), (5, "off", None), (6, "off", None), (8, "off", None)])
        rows = ['formula A1:A1 "=RC[701]"', 'formula B1:B1 "=RC[701]"', 'formula A2:B2 "=RC[700]"', 'formula A3:B3 "=RC[701]"', 'formula A9998:A9998 "=R[1]C"', 'formula A9999:A9999 "=R[1]C"']
        self.assertEqual(told(file_of(sheet=rows), "s"), [(3, "off", None), (5, "off", None), (7, "off", None)])
        # It counts before what disagrees.
        self.assertEqual(told(file_of(sheet=['formula A1:A1 "=1"', 'formula A1:A1 "=R[-1]C"']), "s"), [(3, "off", None)])

    def test_again_tells_the_first_line(self):
        rows = ["cell B2 1 0", "link B3 r1", "merge C1:C2", "merge A1:C3"]
        file = with_tables(rows, outer=['r1 outer "x"'])
        self.assertEqual(told(file, "s"), [(5, "again", 2)])
        rows = ["merge D1:D2", "cell B2 - 1", "link B2 r1", "cell B2 1 0", "merge A1:D9"]
        self.assertEqual(told(with_tables(rows, styles=['fill 1 1', "style 1 0 0 1 0 0"], outer=['r1 outer "x"']), "s"), [(5, "again", 3), (6, "again", 2)])
        # A line that is not kept drops no others.
        rows = ["columns A-C 1 0", "columns C-E 1 0", "columns D-E 1 0", "columns A-Z 1 0"]
        self.assertEqual(told(file_of(sheet=rows), "s"), [(3, "again", 2), (5, "again", 2)])
        rows = ["cell A1 1 0", "cell A1 2 0", "cell A1 3 0"]
        self.assertEqual(told(file_of(sheet=rows), "s"), [(3, "again", 2), (4, "again", 2)])
        self.assertEqual(read(file_of(sheet=rows)).sheets[0].cells[0][1], 1)

    def test_merges_in_both_orders(self):
        for line in ("cell B1 1 0", "cell B1 s9 0", "link B1 r9", 'formula B1:B1 "=1"', 'formula A2:B2 "=1"'):
            for rows, wanted in ((["merge A1:B2", line], (3, "again", 2)), ([line, "merge A1:B2"], (3, "again", 2))):
                self.assertIn(wanted, told(file_of(sheet=rows), "s"))

    def test_relationships_that_lead_to_the_book(self):
        file = file_of(parts=["r1 sheet s", "r1 sheet b", "r2 strings b", "r3 sheet s"])
        self.assertEqual(told(file, "b.links"), [(3, "again", None), (4, "again", None), (5, "again", 2)])

    def test_relationships_again(self):
        file = file_of(parts=["r1 sheet s", "r2 strings t", "r3 strings u", "r2 styles u", "r4 styles t", "r5 sheet t", "r6 sheet u"], t=[], u=[])
        self.assertEqual(told(file, "b.links"), [(4, "again", 3), (5, "again", 3), (6, "again", 3), (7, "again", 3)])
        self.assertEqual(dict(Reading(file).kinds)["u"], "sheet")

    def test_full_at_2000_places(self):
        rows = [f"cell A{row} 1 0" for row in range(1, 1999)] + ['formula A1:A1998 "=1"', 'formula B1:B3 "=1"', 'formula B1:B2 "=1"', "cell A1999 1 0", "cell B2 1 0", "cell B3 - 9", 'formula A1998:A1998 "=2"']
        file = file_of(sheet=rows)
        self.assertEqual(told(file, "s"), [(2001, "full", None), (2003, "full", None), (2005, "full", None), (2006, "again", 2000)])
        self.assertEqual(len(read(file).sheets[0].cells), 2000)
        # Lost values count, and cells of which nothing is left.
        rows = [f"cell A{row} s1 0" for row in range(1, 2001)] + ["cell B1 1 0", 'formula A2000:A2000 "=1"']
        self.assertEqual(told(file_of(sheet=rows), "s")[-1], (2002, "full", None))
        self.assertEqual(len(read(file_of(sheet=rows)).sheets[0].cells), 1)

    def test_full_of_sheets(self):
        parts = [f"r{at} sheet s{at}" for at in range(1, 33)]
        book = [f'sheet {at} "n{at}" r{at}' for at in range(1, 33)]
        file = file_of(parts=parts, book=book + ['sheet 1 "x" r40'], **{f"s{at}": [] for at in range(1, 33)})
        del file["s"]
        self.assertEqual(complaints(file), [("b", 32, "full", None), ("b", 33, "full", None), ("b", 34, "again", 2)])
        self.assertEqual(len(read(file).sheets), 30)

    def test_full_of_merges_and_links(self):
        rows = [f"merge A{row}:B{row}" for row in range(1, 302)]
        self.assertEqual(told(file_of(sheet=rows), "s"), [(302, "full", None)])
        rows = [f"link A{row} r1" for row in range(1, 2002)]
        file = file_of(sheet=rows, s_links=['r1 outer "x"'])
        self.assertEqual(told(file, "s"), [(2002, "full", None)])
        self.assertEqual(len(read(file).sheets[0].links), 2000)

    def test_full_of_names(self):
        rows = [f'name - n_{at} "=1"' for at in range(150)] + [f'name 1 n_{at} "=1"' for at in range(49)] + ['name 7 x "=1"', 'name - y "=1"', 'name - y "=y"']
        file = file_of(book=['sheet 1 "Data" r1', *rows])
        self.assertEqual(told(file, "b"), [(202, "lost", None), (203, "full", None), (204, "full", None)])
        self.assertEqual(len(read(file).names), 199)

    def test_rings(self):
        rows = ['name - a "=b"', 'name - b "=k+b"', 'name - b "=k"', 'name - k "=a+d"', 'name - d "=d"', 'name 1 a "=b"', 'name 1 b "=a"', 'name 2 b "=a"', 'name - k "=d"', 'name - d "=a"',
                'name 9 x "=y"', 'name 9 y "=x"']
        file = file_of(book=['sheet 1 "Data" r1', *rows])
        self.assertEqual(told(file, "b"), [(4, "ring", None), (6, "ring", 3), (7, "ring", None), (9, "ring", 8), (10, "lost", None), (12, "ring", 3), (13, "lost", None), (14, "ring", 13)])
        self.assertEqual([item[:2] for item in read(file).names], [(None, "a"), (None, "b"), (None, "k"), ("Data", "a")])

    def test_a_name_that_is_not_kept_is_in_no_ring(self):
        rows = ['name - x "=y"', 'name - y "=x+z"', 'name - z "=x"', 'name - y "=z"', 'name - y "=1"']
        file = file_of(book=['sheet 1 "Data" r1', *rows])
        self.assertEqual(told(file, "b"), [(4, "ring", 3), (6, "ring", 5)])
        self.assertEqual([item[1] for item in read(file).names], ["x", "y", "z"])

    def test_the_shortest_ring_is_told(self):
        rows = ['name - a "=b"', 'name - b "=d"', 'name - k "=d"', 'name - e "=d"', 'name - d "=a+k+e"']
        self.assertEqual(told(file_of(book=['sheet 1 "Data" r1', *rows]), "b"), [(7, "ring", 6)])

    def test_names_of_sheets_with_other_letters(self):
        file = file_of(parts=["r1 sheet s", "r2 sheet t"], book=['sheet 1 "data" r1', 'sheet 2 "DATA" r2', 'sheet 2 "More" r2'], t=[])
        self.assertEqual(complaints(file), [("b", 3, "again", 2)])
        self.assertEqual([sheet.name for sheet in read(file).sheets], ["data", "More"])


class Lost(unittest.TestCase):
    def test_each_number_once(self):
        rows = ["cell A1 s7 7", "cell A2 s7 0", "cell A3 5 7", "columns A-B 5 7", "columns C-C - 7", "rows 1-1 - 7 hidden", "link A1 r7", "cell A4 s1 1", 'formula A2:A2 "=1"']
        file = with_tables(rows, ['1 "x"'], ["fill 1 1", "style 1 0 0 1 0 0"], ['r1 outer "t"'])
        self.assertEqual(complaints(file), [("s", line, "lost", None) for line in range(2, 9)])
        sheet = read(file).sheets[0]
        style = ("", PLAIN[1], 1, PLAIN[3], PLAIN[4])
        self.assertEqual(sheet.cells, (((2, 1), None, ("number", 1), PLAIN), ((3, 1), 5, None, PLAIN), ((4, 1), "x", None, style)))
        self.assertEqual((sheet.columns, sheet.rows, sheet.links), (((1, 5, False, PLAIN), (2, 5, False, PLAIN)), ((1, None, True, PLAIN),), ()))

    def test_lines_that_refer_to_a_line_that_lost_something_do_not_complain(self):
        rows = ["cell A1 5 1", "cell A2 5 2", "cell A3 - 2"]
        file = with_tables(rows, (), ["fill 1 1", "style 1 9 9 1 0 0", "style 2 0 0 0 0 9"])
        self.assertEqual(complaints(file), [("styles", 3, "lost", None), ("styles", 4, "lost", None)])
        self.assertEqual(read(file).sheets[0].cells, (((1, 1), 5, None, ("", PLAIN[1], 1, PLAIN[3], PLAIN[4])), ((2, 1), 5, None, PLAIN)))

    def test_numbers_of_lines_that_are_not_kept(self):
        file = with_tables(["cell A1 s1 0", "cell A2 s2 0"], ['1 "x"', '1 "y"', '2 x'])
        self.assertEqual(complaints(file), [("s", 3, "lost", None), ("strings", 3, "again", 2), ("strings", 4, "line", None)])
        self.assertEqual(read(file).sheets[0].cells, (((1, 1), "x", None, PLAIN),))

    def test_the_lines_of_a_book(self):
        file = file_of(parts=["r1 sheet s", "r2 strings strings", "r3 sheet v"], strings=[], book=["active 9", 'sheet 5 "E" r2', 'sheet 3 "C" r1', 'sheet 4 "D" r7', 'sheet 2 "B" r3', 'name 9 a "=1"', 'name 5 a "=1"',
                                                                                       'name - b "=a"'])
        # The relationship r3 is kept although it leads to no part, so only its own line complains.
        self.assertEqual(complaints(file), [("b", 2, "lost", None), ("b", 3, "lost", None), ("b", 5, "lost", None), ("b", 7, "lost", None), ("b.links", 4, "part", None)])
        book = read(file)
        self.assertEqual(([sheet.name for sheet in book.sheets], book.active), (["B", "C", "D", "E"], 1))
        self.assertEqual(book.names, ((None, "b", ("name", "a")), ("E", "a", ("number", 1))))

    def test_no_sheet_line(self):
        file = file_of(book=["active 1", 'name - b "=1"', 'name 1 b "=1"'], sheet=["cell A1 1 0"])
        self.assertEqual(complaints(file), [("b", 2, "lost", None), ("b", 4, "lost", None)])
        book = read(file)
        self.assertEqual((book.sheets[0].name, book.sheets[0].cells, len(book.sheets), book.active, book.names),
                         ("Sheet1", (), 1, 1, ((None, "b", ("number", 1)),)))

    def test_the_type_of_the_relationship_must_be_right(self):
        file = file_of(parts=["r1 strings s"], book=['sheet 1 "Data" r1'])
        file["s"] = "strings 0"
        self.assertEqual(complaints(file), [("b", 2, "lost", None)])


class Books(unittest.TestCase):
    def test_all_that_lines_say(self):
        rows = ['link A1 r2', 'merge C1:D2', 'formula A1:A2 "=RC[1]"', "cell A1 true 2", "rows 3-4 7 1 hidden", "columns B-B - 2", "frozen 1 2", "merge A5:B5", "cell E9 -5 0", "link B1 r1"]
        file = with_tables(rows, ['5 "x"'], ["style 2 0 1 0 0 0", 'font 1 "Plain" 10 bold', "style 1 0 1 0 0 0"], ['r2 outer "t"', 'r1 outer "u"'])
        file["b"] = 'book 4\nname 7 rate "=$A$1"\nactive 7\nsheet 7 "Data" r1 hidden\nname - rate "=Data!$B$2"'
        self.assertEqual(complaints(file), [])
        book = read(file)
        sheet = book.sheets[0]
        self.assertEqual(sheet.cells, (((1, 1), True, read_formula("=B1"), BOLD), ((2, 1), None, read_formula("=B2"), PLAIN), ((9, 5), -5, None, PLAIN)))
        self.assertEqual((sheet.merges, sheet.columns, sheet.rows), (((1, 3, 2, 4), (5, 1, 5, 2)), ((2, None, False, BOLD),), ((3, 7, True, BOLD), (4, 7, True, BOLD))))
        self.assertEqual((sheet.frozen, sheet.links, sheet.hidden, sheet.name), ((1, 2), (((1, 1), "t"), ((1, 2), "u")), True, "Data"))
        self.assertEqual(book.names, ((None, "rate", read_formula("=Data!$B$2")), ("Data", "rate", read_formula("=$A$1"))))

    def test_sheets_stand_by_their_numbers(self):
        file = file_of(parts=["r1 sheet s", "r2 sheet t"], t=["cell A1 2 0"], sheet=["cell A1 1 0"], book=['sheet 9 "a" r2', 'sheet 3 "b" r1', "active 9"])
        book = read(file)
        self.assertEqual(([(sheet.name, sheet.cells[0][1]) for sheet in book.sheets], book.active), ([("b", 1), ("a", 2)], 2))

    def test_what_says_nothing_after_all_is_not_there(self):
        file = with_tables(["cell A1 - 1", "columns A-A - 1", "rows 1-2 - 1"], (), ["style 1 9 0 0 0 0"])
        sheet = read(file).sheets[0]
        self.assertEqual((sheet.cells, sheet.columns, sheet.rows), ((), (), ()))

    def test_a_file_with_other_numbers_reads_as_the_same_book(self):
        one = with_tables(["cell A1 s1 1", "cell A2 s2 2", "link A1 r1"], ['1 "x"', '2 "y"'], ["fill 1 1", "fill 2 2", "style 1 0 0 1 0 0", "style 2 0 0 2 0 0"], ['r1 outer "t"'])
        other = with_tables(["cell A1 s22 9999999", "cell A2 s1 3", "link A1 r9999999"], ['1 "y"', '22 "x"'],
                            ["fill 7 2", "fill 1 1", "style 3 0 0 7 0 0", "style 9999999 0 0 1 0 0"], ['r9999999 outer "t"'])
        self.assertTrue(read(one).is_same(read(other)))

    def test_reading_never_fails(self):
        chance = random.Random(8)
        pool = [text for sorts in RIGHT.values() for _, texts in sorts for text in texts] + [text for texts in WRONG.values() for text in texts]
        for _ in range(150):
            file = {}
            for path in ("links", "b", "b.links", "s", "s.links", "t", "u", "sheets/1"):
                if chance.random() < 0.8:
                    kind = {"links": "links", "b": "book", "b.links": "parts", "s.links": "outer", "t": "strings", "u": "styles"}.get(path, "sheet")
                    own = [text for _, texts in RIGHT[kind] for text in texts]
                    rows = [chance.choice(own) if chance.random() < 0.8 else chance.choice(pool) for _ in range(chance.randint(0, 30))]
                    file[path] = "\n".join([f"{HEADERS[kind]} {len(rows)}", *rows])
            if chance.random() < 0.9:
                file["links"] = "links 1\nr1 book b"
                file["b.links"] = "links 4\nr1 sheet s\nr2 strings t\nr3 styles u\nr9999999 sheet sheets/1"
            reading = Reading(file)
            self.assertIsInstance(reading.book, Book)
            self.assertTrue(remade(reading.book).is_same(reading.book))
            self.assertEqual(complaints(file), list(reading.complaints))
            self.assertEqual(is_clean(file), reading.complaints == ())
            self.assertEqual(list(reading.complaints), sorted(reading.complaints, key=lambda row: (row[0], row[1], CODES.index(row[2]))))
            again = write(reading.book)
            self.assertEqual(complaints(again), [])
            self.assertTrue(read(again).is_same(reading.book))

    def test_a_lot_of_places_and_merges_take_no_long(self):
        rows = ["merge A1:ZZ9999"] + [f"cell A{row} - 1" for row in range(1, 2001)] + [f"merge A{row}:ZZ9999" for row in range(1, 400)] + ['formula A1:A9999 "=1"'] * 30
        self.assertEqual(len(told(with_tables(rows, (), ["fill 1 1", "style 1 0 0 1 0 0"]), "s")), 399 + 30)

    def test_the_example(self):
        file = {"links": "links 1\nr1 book b", "b": 'book 2\nactive 1\nsheet 1 "a" r1', "b.links": "links 1\nr1 sheet s"}
        file["s"] = "sheet 3\ncell A1 5 0\ncell A1 6 0\ncell B1 s1 0"
        self.assertEqual(Reading(file).book.sheets[0].cells[0][:2], ((1, 1), 5))
        self.assertEqual(Reading(file).complaints, (("s", 3, "again", 2), ("s", 4, "lost", None)))


if __name__ == "__main__":
    unittest.main()
