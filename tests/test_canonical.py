"""[48], [49] and gridfile/canonical.py: the nine rules, and the lines that break them."""

import random
import unittest

from gridfile.canonical import RULES, breaches, is_canonical
from gridfile.errors import BadFile
from gridfile.formulas import read_formula
from gridfile.model import Book, Sheet
from gridfile.names import with_name
from gridfile.reading import complaints, read
from gridfile.values import PLAIN
from gridfile.writing import write
from support import MUTATIONS, ODD_VALUES, caught, mutated, random_book, with_right_headers

BOLD = ("", ("Plain", 10, True, False), None, (0, 0, 0, 0), ("general", False))
RED = ("", ("Plain", 10, True, False), 255, (0, 0, 0, 0), ("left", False))


def a_book():
    """A book with something of everything; its second sheet is active."""
    data = Sheet("Data", cells=[((1, 1), "x", None, BOLD), ((1, 2), "y", None, PLAIN), ((2, 1), "x", read_formula("=A1+1"), PLAIN), ((3, 1), 7, read_formula("=A2+1"), RED)],
                 columns=[(1, 5, False, PLAIN), (2, 5, False, PLAIN), (4, 5, False, PLAIN)], rows=[(1, 9, True, BOLD), (2, 9, True, BOLD), (3, 9, True, BOLD)],
                 links=[((1, 1), "t"), ((1, 2), "u"), ((2, 1), "t")], merges=[(9, 1, 9, 2), (9, 3, 9, 4)], frozen=(1, 0))
    book = Book([data, Sheet("More", cells=[((1, 1), "z", None, PLAIN)]), Sheet("Last", hidden=True)], active=2)
    book = with_name(book, None, "rate", read_formula("=Data!$A$1"))
    return with_name(book, "More", "tax", read_formula("=rate*2"))


# As the book above is written.
WRITTEN = {
    "links": "links 1\nr1 book book",
    "book": 'book 6\nactive 2\nsheet 1 "Data" r3\nsheet 2 "More" r4\nsheet 3 "Last" r5 hidden\nname - rate "=Data!$A$1"\nname 2 tax "=rate*2"',
    "book.links": "links 5\nr1 strings strings\nr2 styles styles\nr3 sheet sheets/1\nr4 sheet sheets/2\nr5 sheet sheets/3",
    "strings": 'strings 3\n1 "x"\n2 "y"\n3 "z"',
    "styles": 'styles 5\nfont 1 "Plain" 10 bold\nfill 1 255\nalign 1 left\nstyle 1 0 1 0 0 0\nstyle 2 0 1 1 0 1',
    "sheets/1": 'sheet 14\nfrozen 1 0\ncolumns A-B 5 0\ncolumns D-D 5 0\nrows 1-3 9 1 hidden\ncell A1 s1 1\ncell B1 s2 0\ncell A2 s1 0\ncell A3 7 2\nformula A2:A3 "=R[-1]C+1"\n'
                "merge A9:B9\nmerge C9:D9\nlink A1 r1\nlink B1 r2\nlink A2 r1",
    "sheets/1.links": 'links 2\nr1 outer "t"\nr2 outer "u"',
    "sheets/2": "sheet 1\ncell A1 s3 0",
    "sheets/3": "sheet 0",
}


def changed(*changes):
    """The file with other texts, told by triples (path, old, new); its headers are made right."""
    file = dict(WRITTEN)
    for path, old, new in changes:
        if old not in file[path]:
            raise AssertionError((path, old))
        file[path] = file[path].replace(old, new)
    return with_right_headers(file)


class Rules(unittest.TestCase):
    def check(self, file, wanted):
        self.assertEqual(breaches(file), wanted)
        self.assertIs(is_canonical(file), wanted == [])
        self.assertEqual(write(read(file)) == file, wanted == [])
        self.assertEqual(complaints(file) == [], all(rule != 1 for _, _, rule in wanted))

    def test_rules(self):
        self.assertEqual(RULES, ("clean", "paths", "words", "order", "numbers", "use", "needed", "defaults", "least"))

    def test_a_canonical_file(self):
        self.assertEqual(write(a_book()), WRITTEN)
        self.check(WRITTEN, [])
        self.check({path: WRITTEN[path] for path in sorted(WRITTEN, reverse=True)}, [])

    def test_clean_comes_alone(self):
        self.check(changed(("book", "active 2", "active 1\n?"), ("strings", '3 "z"', '3 "z"\n3 "z"')), [("book", 3, 1), ("strings", 5, 1)])
        self.check({**WRITTEN, "x": "", "strings": 'strings 2\n1 "x"\n2 "y"\n3 "z"'}, [("strings", 1, 1), ("x", 0, 1)])
        # Two complaints about one line break the rule once.
        self.check({**write(Book([Sheet("a")])), "sheets/1": "?"}, [("sheets/1", 1, 1)])
        self.check({}, [("links", 0, 1)])

    def test_paths(self):
        self.check({"links": "links 0"}, [("links", 0, 2)])
        self.check({"links": "links 1\nr1 book book", "book": "book 0"}, [("book", 0, 2)])
        self.check({"links": "links 1\nr1 book b", "b": "book 0", "b.links": "links 0"}, [("b", 0, 2), ("b.links", 0, 2)])

    def test_other_paths_of_the_book_and_its_tables(self):
        file = changed(("links", "book book", "book b"))
        file["b"], file["b.links"] = file.pop("book"), file.pop("book.links")
        self.check(file, [("b", 0, 2), ("b.links", 0, 2)])
        file = changed(("book.links", "strings strings", "strings s"), ("book.links", "styles styles", "styles strings"))
        file["s"], file["strings"] = file["strings"], file.pop("styles")
        self.check(file, [("s", 0, 2), ("strings", 0, 2)])

    def test_other_paths_of_sheets(self):
        file = changed(("book.links", "r3 sheet sheets/1\nr4 sheet sheets/2", "r3 sheet sheets/2\nr4 sheet sheets/1"))
        file["sheets/1"], file["sheets/2"], file["sheets/2.links"] = file["sheets/2"], file["sheets/1"], file.pop("sheets/1.links")
        self.check(file, [("sheets/1", 0, 2), ("sheets/2", 0, 2), ("sheets/2.links", 0, 2)])
        file = changed(("book.links", "sheets/3", "sheets/4"))
        file["sheets/4"] = file.pop("sheets/3")
        self.check(file, [("sheets/4", 0, 2)])

    def test_words(self):
        self.check(changed(("book", "=Data!", "='Data'!")), [("book", 6, 3)])
        self.check(changed(("book", "=rate*2", "=rate* 2")), [("book", 7, 3)])
        self.check(changed(("sheets/1", "=R[-1]C+1", "=(R[-1]C)+1")), [("sheets/1", 10, 3)])
        self.check(changed(("sheets/1", "=R[-1]C+1", "=R[-1]C+01"), ("book", "=rate*2", "=(rate*2)")), [("book", 7, 3), ("sheets/1", 10, 3)])

    def test_order(self):
        for path in ("sheets/1", "book"):
            rows = WRITTEN[path].split("\n")
            for at in range(1, len(rows) - 1):
                if not rows[at].startswith("sheet") or not rows[at + 1].startswith("sheet"):
                    swapped = [*rows[:at], rows[at + 1], rows[at], *rows[at + 2:]]
                    self.check({**WRITTEN, path: "\n".join(swapped)}, [(path, at + 2, 4)])

    def test_order_is_told_by_the_line_directly_above(self):
        self.check(changed(("sheets/1", "frozen 1 0\n", ""), ("sheets/1", "link B1 r2", "link B1 r2\nfrozen 1 0")), [("sheets/1", 14, 4)])
        self.check(changed(("book", "active 2\n", ""), ("book", '"=rate*2"', '"=rate*2"\nactive 2')), [("book", 7, 4)])

    def test_order_of_styles(self):
        self.check(changed(("styles", "fill 1 255\nalign 1 left", "align 1 left\nfill 1 255")), [("styles", 4, 4)])
        self.check(changed(("styles", "align 1 left\nstyle 1 0 1 0 0 0", "style 1 0 1 0 0 0\nalign 1 left")), [("styles", 5, 4)])

    def test_order_of_relationships_is_by_types_then_numbers(self):
        self.check(changed(("book.links", "r1 strings strings\nr2 styles styles", "r2 styles styles\nr1 strings strings")), [("book.links", 2, 5), ("book.links", 3, 4), ("book.links", 3, 5),
                                                                                                                       ("book.links", 4, 5)])
        # By types first, whatever the numbers.
        self.check(changed(("book.links", "r1 strings", "r2 strings"), ("book.links", "r2 styles", "r1 styles")), [("book.links", 2, 5), ("book.links", 3, 5), ("book.links", 4, 5)])
        self.check(changed(("book.links", "r3 sheet sheets/1\nr4 sheet sheets/2", "r4 sheet sheets/2\nr3 sheet sheets/1")),
                   [("book.links", 4, 5), ("book.links", 5, 4), ("book.links", 5, 5), ("book.links", 5, 6), ("book.links", 6, 5)])

    def test_numbers(self):
        self.check({**WRITTEN, "links": "links 1\nr2 book book"}, [("links", 2, 5)])
        self.check(changed(("strings", '3 "z"', '4 "z"'), ("sheets/2", "s3", "s4")), [("strings", 4, 5)])
        self.check(changed(("strings", '1 "x"', '4 "x"'), ("sheets/1", "s1", "s4")), [("strings", 2, 5), ("strings", 3, 4), ("strings", 3, 5)])
        self.check(changed(("book", "sheet 3", "sheet 5")), [("book", 5, 5)])
        # The sheets now come in another order, so their paths and relationships are not right either.
        self.assertLessEqual({("book", 3, 5), ("book", 4, 4), ("book", 4, 5)}, set(breaches(changed(("book", "sheet 1", "sheet 9")))))
        self.check(changed(("styles", "fill 1", "fill 3"), ("styles", "style 2 0 1 1", "style 2 0 1 3")), [("styles", 3, 5)])
        self.check(changed(("styles", "style 2", "style 7"), ("sheets/1", "cell A3 7 2", "cell A3 7 7")), [("styles", 6, 5)])
        self.check(changed(("sheets/1.links", "r2", "r9"), ("sheets/1", "B1 r2", "B1 r9")), [("sheets/1.links", 3, 5)])
        self.check(changed(("book.links", "r5", "r6"), ("book", "r5", "r6")), [("book.links", 6, 5)])

    def test_each_gap_in_the_numbers_is_told_once(self):
        self.check(changed(("strings", '2 "y"\n3 "z"', '7 "y"\n8 "z"'), ("sheets/1", "s2", "s7"), ("sheets/2", "s3", "s8")), [("strings", 3, 5)])

    def test_use_of_strings_and_styles(self):
        self.check(changed(("strings", '1 "x"\n2 "y"', '1 "y"\n2 "x"'), ("sheets/1", "s2", "s0"), ("sheets/1", "s1", "s2"), ("sheets/1", "s0", "s1")), [("strings", 3, 6)])
        self.check(changed(("styles", "style 1 0 1 0 0 0\nstyle 2 0 1 1 0 1", "style 1 0 1 1 0 1\nstyle 2 0 1 0 0 0"), ("sheets/1", "cell A1 s1 1", "cell A1 s1 2"),
                           ("sheets/1", "rows 1-3 9 1", "rows 1-3 9 2"), ("sheets/1", "cell A3 7 2", "cell A3 7 1")), [("styles", 6, 6)])

    def test_cells_use_before_columns_and_these_before_rows(self):
        plain = (0, 0, 0, 0)
        one, two, three = [("", PLAIN[1], color, plain, PLAIN[4]) for color in (1, 2, 3)]
        file = write(Book([Sheet("a", cells=[((9, 9), None, None, one)], columns=[(1, None, False, two)], rows=[(1, None, False, three)])]))
        self.check(file, [])
        styles = "styles 6\nfill 1 1\nfill 2 2\nfill 3 3\nstyle 1 0 0 1 0 0\nstyle 2 0 0 2 0 0\nstyle 3 0 0 3 0 0"
        self.assertEqual(file["styles"], styles)
        for sheet, line in (("columns A-A - 1\nrows 1-1 - 3\ncell I9 - 2", 6), ("columns A-A - 3\nrows 1-1 - 2\ncell I9 - 1", 7)):
            self.check({**file, "sheets/1": "sheet 3\n" + sheet}, [("styles", line, 6)])

    def test_use_of_parts_is_by_the_lines_of_style_rows(self):
        file = changed(("styles", 'font 1 "Plain" 10 bold', 'font 1 "Plain" 11\nfont 2 "Plain" 10 bold'), ("styles", "style 1 0 1 0 0 0", "style 1 0 2 0 0 0"))
        self.check(file, [("styles", 3, 6)])

    def test_use_of_relationships(self):
        self.check(changed(("sheets/1.links", 'r1 outer "t"\nr2 outer "u"', 'r1 outer "u"\nr2 outer "t"'), ("sheets/1", "A1 r1", "A1 r2"), ("sheets/1", "B1 r2", "B1 r1"),
                           ("sheets/1", "A2 r1", "A2 r2")), [("sheets/1.links", 3, 6)])
        file = changed(("book.links", "r3 sheet sheets/1\nr4 sheet sheets/2", "r3 sheet sheets/2\nr4 sheet sheets/1"), ("book", '"Data" r3', '"Data" r4'), ("book", '"More" r4', '"More" r3'))
        self.check(file, [("book.links", 5, 6)])

    def test_use_passes_over_what_nothing_uses(self):
        self.check(changed(("strings", '1 "x"\n2 "y"', '1 "y"\n2 "q"\n3 "x"'), ("strings", '3 "z"', '4 "z"'), ("sheets/1", "s2", "s0"), ("sheets/1", "s1", "s3"), ("sheets/1", "s0", "s1"),
                           ("sheets/2", "s3", "s4")), [("strings", 3, 7), ("strings", 4, 6)])

    def test_needed_lines_of_tables(self):
        self.check(changed(("strings", '3 "z"', '3 "z"\n4 "q"')), [("strings", 5, 7)])
        self.check(changed(("strings", '3 "z"', '3 "x"'), ("sheets/2", "s3", "s3")), [("strings", 4, 7)])
        self.check(changed(("strings", '3 "z"', '3 "z"\n4 "x"')), [("strings", 5, 7)])
        self.check(changed(("styles", "fill 1 255", "fill 1 255\nfill 2 7")), [("styles", 4, 7)])
        self.check(changed(("styles", "style 2 0 1 1 0 1", "style 2 0 1 1 0 1\nstyle 3 0 0 1 0 0")), [("styles", 7, 7)])
        self.check(changed(("styles", "style 2 0 1 1 0 1", "style 2 0 1 1 0 1\nstyle 3 0 1 0 0 0"), ("sheets/2", "s3 0", "s3 3")), [("styles", 7, 7)])
        self.check(changed(("styles", "fill 1 255", "fill 1 255\nfill 2 255"), ("styles", "style 2 0 1 1 0 1", "style 2 0 1 1 0 1\nstyle 3 0 0 2 0 0"), ("sheets/2", "s3 0", "s3 3")),
                   [("styles", 4, 7)])

    def test_a_part_that_only_an_unused_style_row_has_is_used(self):
        self.check(changed(("styles", "fill 1 255", "fill 1 255\nfill 2 7"), ("styles", "style 2 0 1 1 0 1", "style 2 0 1 1 0 1\nstyle 3 0 0 2 0 0")), [("styles", 8, 7)])

    def test_needed_relationships_and_parts(self):
        self.check(changed(("sheets/1.links", 'r2 outer "u"', 'r2 outer "u"\nr3 outer "v"')), [("sheets/1.links", 4, 7)])
        self.check(changed(("sheets/1.links", 'r2 outer "u"', 'r2 outer "u"\nr3 outer "t"'), ("sheets/1", "A2 r1", "A2 r3")), [("sheets/1.links", 4, 7)])
        self.check({**WRITTEN, "sheets/3.links": "links 0"}, [("sheets/3.links", 0, 7)])
        base = write(Book([Sheet("a")]))
        for word in ("strings", "styles"):
            file = {**base, word: f"{word} 0", "book.links": f"links 2\nr1 {word} {word}\nr2 sheet sheets/1", "book": 'book 1\nsheet 1 "a" r2'}
            self.check(file, [(word, 0, 7)])

    def test_a_sheet_part_that_no_sheet_uses(self):
        extra = {"x": 'sheet 3\ncell B1 s1 1\ncell A1 s3 0\nformula A1:A1 "=(1)"', "x.links": 'links 2\nr2 outer "v"\nr1 outer "v"'}
        file = {**changed(("book.links", "r5 sheet sheets/3", "r5 sheet sheets/3\nr6 sheet x")), **extra}
        self.check(file, [("book.links", 7, 7), ("x", 3, 4), ("x", 4, 3), ("x.links", 2, 5), ("x.links", 3, 4), ("x.links", 3, 5)])
        # What only such a part uses is not used, and its own lines need not be least or have a right path.
        file = {**changed(("book.links", "r5 sheet sheets/3", "r5 sheet sheets/3\nr6 sheet x"), ("strings", '3 "z"', '3 "z"\n4 "q"')),
                "x": 'sheet 5\ncolumns A-A 5 0\ncolumns B-B 5 0\ncell A1 s4 0\nformula A1:A1 "=1"\nformula A2:A2 "=1"'}
        self.check(file, [("book.links", 7, 7), ("strings", 5, 7)])

    def test_defaults(self):
        self.check(changed(("book", "active 2", "active 1")), [("book", 2, 8)])
        # The first sheet is the one with the least number.
        for number, is_told in ((7, False), (2, True)):
            broken = breaches(changed(("book", "active 2", f"active {number}"), ("book", "sheet 1", "sheet 7")))
            self.assertEqual(("book", 2, 8) in broken, is_told)

    def test_least_runs(self):
        self.check(changed(("sheets/1", "columns A-B 5 0", "columns A-A 5 0\ncolumns B-B 5 0")), [("sheets/1", 4, 9)])
        self.check(changed(("sheets/1", "rows 1-3 9 1 hidden", "rows 1-1 9 1 hidden\nrows 2-2 9 1 hidden\nrows 3-3 9 1 hidden")), [("sheets/1", 6, 9), ("sheets/1", 7, 9)])
        # Other words, or a gap, make other runs.
        self.check(changed(("sheets/1", "columns D-D 5 0", "columns C-C 5 0 hidden\ncolumns D-D 6 0\ncolumns E-E 6 1")), [])
        # What begins directly behind need not stand directly below.
        self.check(changed(("sheets/1", "columns A-B 5 0\ncolumns D-D 5 0", "columns B-B 5 0\ncolumns D-D 5 0\ncolumns A-A 5 0")), [("sheets/1", 3, 9), ("sheets/1", 5, 4)])

    def test_least_formula_lines(self):
        self.check(changed(("sheets/1", 'formula A2:A3 "=R[-1]C+1"', 'formula A2:A2 "=R[-1]C+1"\nformula A3:A3 "=R[-1]C+1"')), [("sheets/1", 10, 9), ("sheets/1", 11, 9)])
        square = {**WRITTEN, "sheets/3": 'sheet 2\nformula A1:A2 "=1"\nformula B1:B2 "=1"'}
        self.check(square, [])
        self.check({**WRITTEN, "sheets/3": 'sheet 2\nformula A1:B1 "=1"\nformula A2:B2 "=1"'}, [("sheets/3", 2, 9), ("sheets/3", 3, 9)])
        self.check({**WRITTEN, "sheets/3": 'sheet 3\nformula A1:A2 "=1"\nformula B1:B1 "=1"\nformula B2:B2 "=1"'}, [("sheets/3", 3, 9), ("sheets/3", 4, 9)])

    def test_two_rules_at_once_and_the_order_of_the_triples(self):
        self.check(changed(("strings", '3 "z"', '5 "z"\n4 "z"'), ("sheets/2", "s3", "s5"), ("book", "active 2", "active 1"), ("sheets/1", "=R[-1]C+1", "= R[-1]C+1")),
                   [("book", 2, 8), ("sheets/1", 10, 3), ("strings", 4, 5), ("strings", 5, 4), ("strings", 5, 5), ("strings", 5, 7)])

    def test_values_that_are_no_files(self):
        for call in (breaches, is_canonical):
            for value in ODD_VALUES:
                if not isinstance(value, dict):
                    self.assertIsNone(caught(BadFile, call, value).given)
            self.assertEqual(caught(BadFile, call, {"links": "", 5: ""}).given, 5)
        self.assertEqual((breaches(file=WRITTEN), is_canonical(file=WRITTEN)), ([], True))

    def test_a_file_is_canonical_exactly_if_writing_gives_it_again(self):
        found = {}
        for seed in range(500):
            chance = random.Random(seed)
            file = write(random_book(chance))
            for _ in range(chance.choice((1, 1, 2, 3))):
                file = mutated(chance, file)
            broken = breaches(file)
            self.assertEqual(broken == [], write(read(file)) == file, seed)
            self.assertEqual(broken, sorted(set(broken)))
            if complaints(file):
                self.assertEqual(broken, sorted({(path, line, 1) for path, line, _, _ in complaints(file)}))
            for _, _, rule in broken:
                found[rule] = True
        self.assertEqual(sorted(found), [1, 2, 3, 4, 5, 6, 7, 8, 9])
        self.assertGreater(len(MUTATIONS), 5)

    def test_the_example(self):
        file = write(Book([Sheet("a", cells=[((1, 1), "x", None, PLAIN), ((2, 1), "x", ("number", 5), PLAIN)])]))
        file["strings"] = 'strings 2\n2 "x"\n7 "x"'
        file["sheets/1"] = 'sheet 3\ncell A1 s7 0\ncell A2 s2 0\nformula A2:A2 "=(5)"'
        self.assertEqual(breaches(file), [("sheets/1", 4, 3), ("strings", 2, 5), ("strings", 3, 5), ("strings", 3, 6), ("strings", 3, 7)])


if __name__ == "__main__":
    unittest.main()
