"""[9] and class Book of gridfile/model.py: books and defined names."""

import unittest

from gridfile.errors import BadActive, BadNames, BadNumber, BadSheets, NoSheet
from gridfile.model import Book, Sheet
from support import ODD_VALUES, caught

ONE = ("number", 1)
FIXED = (1, 1, True, True)
DATA, MORE = Sheet("Data"), Sheet("More")
NO_ROWS = [value for value in ODD_VALUES if not isinstance(value, (list, tuple))]


def use(*words):
    return ("call", "F", tuple(("name", word) for word in words))


class Sheets(unittest.TestCase):
    def test_one_to_thirty(self):
        sheets = [Sheet(f"s{number}") for number in range(31)]
        self.assertEqual(Book(sheets[:1]).sheets, (sheets[0],))
        self.assertEqual(Book(sheets=tuple(sheets[:30])).sheets, tuple(sheets[:30]))
        self.assertEqual(caught(BadSheets, Book, sheets).at, 30)
        self.assertEqual(caught(BadSheets, Book, sheets[:20] + [None] + sheets[20:]).at, 20)

    def test_none_at_all(self):
        self.assertEqual(caught(BadSheets, Book, []).at, 0)
        self.assertEqual(caught(BadSheets, Book, ()).at, 0)

    def test_what_is_no_list_or_tuple(self):
        for value in (*NO_ROWS, DATA, "Data"):
            self.assertIsNone(caught(BadSheets, Book, value).at)

    def test_what_is_no_sheet(self):
        for value in (*ODD_VALUES, "Data", Book([DATA]), Sheet):
            self.assertEqual(caught(BadSheets, Book, [DATA, value]).at, 1)
            self.assertEqual(caught(BadSheets, Book, (value, value)).at, 0)

    def test_names_that_are_equal_but_for_case(self):
        for name in ("Data", "data", "DATA", "dAtA"):
            self.assertEqual(caught(BadSheets, Book, [MORE, DATA, Sheet("x"), Sheet(name)]).at, 3)
        self.assertEqual(len(Book([DATA, Sheet("Data ."), Sheet("Dat")]).sheets), 3)

    def test_lists_that_are_passed_are_not_kept(self):
        sheets, names = [DATA, MORE], [(None, "x", ONE)]
        book = Book(sheets, names=names)
        sheets.clear()
        names.append(None)
        self.assertEqual((book.sheets, book.names), ((DATA, MORE), ((None, "x", ONE),)))
        self.assertIs(book.sheet_named("More"), MORE)

    def test_the_others_are_passed_by_name(self):
        with self.assertRaises(TypeError):
            Book([DATA], 1)
        book = Book([DATA])
        self.assertEqual((book.sheets, book.active, book.names), ((DATA,), 1, ()))


class Active(unittest.TestCase):
    def test_numbers_of_sheets(self):
        for number in (1, 2):
            self.assertEqual(Book([DATA, MORE], active=number).active, number)
        for value in (0, 3, -1, True, False, None, "1", 1.0, (1,), [], 10 ** 400):
            self.assertIs(caught(BadActive, Book, [DATA, MORE], active=value).given, value)

    def test_errors_in_order(self):
        self.assertEqual(caught(BadSheets, Book, [], active=0, names=None).at, 0)
        self.assertEqual(caught(BadActive, Book, [DATA], active=2, names=None).given, 2)
        self.assertIsNone(caught(BadNames, Book, [DATA], active=1, names=None).at)


class Names(unittest.TestCase):
    def check(self, at, *names, sheets=(DATA, MORE)):
        if at is None:
            self.assertEqual(Book(sheets, names=names).names, names)
        else:
            self.assertEqual(caught(BadNames, Book, sheets, names=list(names)).at, at)

    def test_what_is_no_list_or_tuple(self):
        for value in NO_ROWS:
            self.assertIsNone(caught(BadNames, Book, [DATA], names=value).at)

    def test_order(self):
        names = [(None, "B", ONE), (None, "a", ONE), ("More", "a", ONE), ("More", "b", ONE), ("Data", "A", ONE)]
        self.check(None, *names, sheets=(MORE, DATA))
        self.check(4, *names)
        for at in range(4):
            turned = list(names)
            turned[at], turned[at + 1] = turned[at + 1], turned[at]
            self.check(at + 1, *turned, sheets=(MORE, DATA))
        self.check(1, names[0], names[0])
        self.check(1, (None, "a", ONE), (None, "a", ("lost",)))
        self.check(None, (None, "a", ONE), ("Data", "a", ONE), ("More", "a", ONE))

    def test_each_wrong_item(self):
        first = (None, "a", ONE)
        wrong = [None, 5, (), (None, "x"), (None, "x", ONE, ONE), [None, "x", ONE], ("Other", "x", ONE), ("data", "x", ONE),
                 ("", "x", ONE), (1, "x", ONE), (True, "x", ONE), (["Data"], "x", ONE), (("Data",), "x", ONE), ({}, "x", ONE),
                 (None, "A1", ONE), (None, "true", ONE), (None, "", ONE), (None, None, ONE), (None, "x y", ONE),
                 (None, "x" * 21, ONE), (None, "rc", ONE), (None, "x", None), (None, "x", ("number", -1)),
                 (None, "x", ("rcell", "Data", FIXED)), *ODD_VALUES]
        for value in wrong:
            self.check(0, value)
            self.check(1, first, value, None)

    def test_references(self):
        for marks in ((True, False), (False, True), (False, False)):
            for tree in (("cell", "Data", (1, 1, *marks)), ("range", "Data", FIXED, (1, 1, *marks))):
                self.check(0, (None, "x", ("minus", tree)))
                self.check(0, ("Data", "x", tree))
        for tree in (("cell", None, FIXED), ("range", None, FIXED, FIXED)):
            self.check(0, (None, "x", ("op", "+", ONE, tree)))
            self.check(None, ("Data", "x", ("op", "+", ONE, tree)))
        for tree in (("cell", "Data", FIXED), ("range", "not there", FIXED, FIXED), ("lost",)):
            self.check(None, (None, "x", tree))
            self.check(None, ("More", "x", tree))

    def test_two_hundred_and_one_more(self):
        names = [(None, f"n_{number:03}", ONE) for number in range(201)]
        self.check(None, *names[:200])
        self.check(200, *names)
        self.check(150, *names[:150], None, *names[150:])
        self.check(2, (None, "a", ONE), (None, "b", use("cc")), (None, "cc", use("b")), *names)

    def test_rings(self):
        self.check(0, (None, "a", use("a")))
        self.check(0, ("Data", "a", ("op", "+", ONE, ("name", "a"))))
        self.check(1, (None, "a", use("b")), (None, "b", use("a")))
        self.check(2, (None, "a", use("b")), (None, "b", use("cc")), (None, "cc", use("b", "d")), (None, "d", use("a")))
        self.check(3, (None, "a", use("d")), (None, "b", use("a")), (None, "cc", use("b")), (None, "d", use("cc")), None)
        self.check(1, (None, "a", use("b")), (None, "b", use("a")), None)
        self.check(1, (None, "a", use("b")), None, (None, "b", use("a")))
        self.check(2, ("Data", "a", use("cc")), ("Data", "b", use("a")), ("Data", "cc", use("x", "b")))

    def test_rows_of_uses_that_are_no_rings(self):
        self.check(None, (None, "a", use("b", "cc")), (None, "b", use("cc")), (None, "cc", use("z")))
        self.check(None, (None, "a", use("b")), ("Data", "b", use("a")))
        self.check(None, (None, "a", use("b")), (None, "b", ONE), ("Data", "a", use("cc")), ("Data", "cc", use("b")))
        self.check(None, ("Data", "a", use("b")), ("More", "b", use("a")))
        # In the sheet, x means the name of the sheet, which uses the book-wide y.
        self.check(None, (None, "x", ONE), (None, "y", use("x")), ("Data", "x", use("y")))
        self.check(3, (None, "x", ONE), (None, "y", use("x")), ("Data", "x", use("y")), ("Data", "y", use("x")))


class Questions(unittest.TestCase):
    BOOK = Book([DATA, MORE, Sheet("last one")])

    def test_sheets_by_numbers_and_names(self):
        for number, name in enumerate(("Data", "More", "last one"), 1):
            self.assertEqual(self.BOOK.sheet_at(number).name, name)
            self.assertEqual(self.BOOK.sheet_at(number=number), self.BOOK.sheets[number - 1])
            self.assertEqual(self.BOOK.number_of(name=name), number)
            self.assertIs(self.BOOK.sheet_named(name=name), self.BOOK.sheets[number - 1])

    def test_what_is_not_there(self):
        for value in (0, 4, -1, True, False, None, "Data", "1", 1.0, (1,), [], {}):
            self.assertIs(caught(NoSheet, self.BOOK.sheet_at, value).given, value)
        for value in ("data", "", "Data ", 1, None, True, ("Data",), ["Data"], {}, b"Data", DATA):
            self.assertIs(caught(NoSheet, self.BOOK.number_of, value).given, value)
            self.assertIs(caught(NoSheet, self.BOOK.sheet_named, value).given, value)


class Changes(unittest.TestCase):
    BOOK = Book([DATA, MORE], active=2, names=[("Data", "x", ONE)])

    def test_with_sheet(self):
        other = Sheet("More", hidden=True)
        book = self.BOOK.with_sheet(number=2, sheet=other)
        self.assertEqual((book.sheets, book.active, book.names), ((DATA, other), 2, self.BOOK.names))
        self.assertEqual(self.BOOK.sheets, (DATA, MORE))
        self.assertIs(book.sheet_named("More"), other)

    def test_refusals_of_with_sheet_in_their_order(self):
        for value in (0, 3, True, None, "Data", []):
            self.assertIs(caught(NoSheet, self.BOOK.with_sheet, value, None).given, value)
        for value in (None, "Data", MORE, Sheet("data"), Book([DATA]), Sheet):
            self.assertEqual(caught(BadSheets, self.BOOK.with_sheet, 1, value).at, 0)
        self.assertEqual(caught(BadSheets, self.BOOK.with_sheet, 2, DATA).at, 1)

    def test_changed(self):
        book = self.BOOK.changed(active=1)
        self.assertEqual((book.active, book.sheets, book.names), (1, self.BOOK.sheets, self.BOOK.names))
        self.assertEqual(self.BOOK.changed(names=[]).names, ())
        self.assertEqual(self.BOOK.changed(sheets=[MORE, DATA]).number_of("Data"), 2)
        self.assertIs(self.BOOK.changed().is_same(self.BOOK), True)

    def test_refusals_of_changed(self):
        self.assertEqual(caught(BadNumber, self.BOOK.changed, sheet=1, sheets=None).given, "sheet")
        self.assertEqual(caught(BadNumber, self.BOOK.changed, sheets=None, name="", other=1).given, "name")
        self.assertEqual(caught(BadSheets, self.BOOK.changed, active=0, sheets=[None]).at, 0)
        self.assertEqual(caught(BadActive, self.BOOK.changed, sheets=[DATA]).given, 2)
        self.assertEqual(caught(BadNames, self.BOOK.changed, sheets=[MORE, Sheet("x")]).at, 0)
        self.assertIsNone(caught(BadNames, self.BOOK.changed, names="").at)


class SameBooks(unittest.TestCase):
    def test_each_part_counts(self):
        book = Book([DATA, MORE], active=2, names=[(None, "x", ("truth", True))])
        self.assertIs(book.is_same(Book([Sheet("Data"), Sheet("More")], active=2, names=[(None, "x", ("truth", True))])), True)
        self.assertIs(book.is_same(other=book), True)
        for other in (Book([MORE, DATA], active=2, names=book.names), Book([DATA, MORE], names=book.names),
                      Book([DATA, MORE], active=2), Book([DATA, MORE, Sheet("x")], active=2, names=book.names),
                      book.with_sheet(1, Sheet("Data", hidden=True)), book.changed(names=[(None, "x", ("truth", False))]),
                      book.changed(names=[("Data", "x", ("truth", True))]), book.changed(names=[(None, "x", ("number", 1))])):
            self.assertIs(book.is_same(other), False)
            self.assertIs(other.is_same(book), False)

    def test_kinds_count(self):
        books = [Book([DATA.with_cell((1, 1), value)]) for value in (1, True)]
        self.assertIs(books[0].is_same(books[1]), False)

    def test_what_is_no_book(self):
        for value in (*ODD_VALUES, DATA, Book):
            self.assertIs(Book([DATA]).is_same(value), False)


if __name__ == "__main__":
    unittest.main()
