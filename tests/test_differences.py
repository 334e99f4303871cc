"""[63] and differences of gridfile/edits.py: one edit for each thing in which two books differ."""

import random
import unittest

from gridfile.edits import changed_things, differences, do_all, is_edit
from gridfile.errors import BadBook, Refused
from gridfile.formulas import read_formula
from gridfile.model import Book, Sheet
from gridfile.values import PLAIN
from support import ODD_VALUES, caught, random_book, random_sheet

BOLD = ("", ("Plain", 10, True, False), None, (0, 0, 0, 0), ("general", False))


def cell(row, column, value=None, formula=None, style=PLAIN):
    return ((row, column), value, None if formula is None else read_formula(formula), style)


def names(**formulas):
    """Book-wide names that are told by their formulas."""
    return tuple((None, word, read_formula(formulas[word])) for word in sorted(formulas))


def by_hand(one, other):
    """The things in which two books with the same sheet names differ."""
    found = set()
    for old, new in zip(one.sheets, other.sheets):
        name = new.name
        for row in range(1, 12):
            for column in range(1, 9):
                if repr(old.cell_at((row, column))) != repr(new.cell_at((row, column))):
                    found.add(("cell", name, (row, column)))
                if old.link_at((row, column)) != new.link_at((row, column)):
                    found.add(("link", name, (row, column)))
        found |= {("merge", name, merge) for merge in set(old.merges) ^ set(new.merges)}
        found |= {("setting", name, "columns", number) for number in range(1, 703) if old.column_setting(number) != new.column_setting(number)}
        found |= {("setting", name, "rows", number) for number in range(1, 10000) if old.row_setting(number) != new.row_setting(number)}
        found |= {("freeze", name)} if old.frozen != new.frozen else set()
        found |= {("hide", name)} if old.hidden != new.hidden else set()
    found |= {("activate",)} if one.active != other.active else set()
    trees = [{item[:2]: item[2] for item in book.names} for book in (one, other)]
    return found | {("name", *pair) for pair in {**trees[0], **trees[1]} if trees[0].get(pair) != trees[1].get(pair)}


class Differences(unittest.TestCase):
    def test_equal_books(self):
        chance = random.Random(14)
        for _ in range(20):
            book = random_book(chance)
            self.assertEqual(differences(book, book), ())
        self.assertEqual(differences(one=Book([Sheet("a")]), other=Book([Sheet("a")])), ())

    def test_the_order_of_the_edits(self):
        one = Sheet("a", cells=[cell(1, 1, 1), cell(1, 2, 1), cell(2, 1, "x"), cell(2, 2, 5)], merges=[(5, 1, 5, 2), (7, 1, 7, 2), (9, 1, 9, 2)], columns=[(1, 5, False, PLAIN), (2, 5, False, PLAIN)],
                    rows=[(1, 5, False, PLAIN)], links=[((1, 1), "t"), ((2, 2), "t"), ((3, 3), "t")])
        other = Sheet("a", cells=[cell(1, 2, True), cell(2, 1, None, "=A1"), cell(2, 2, 5), cell(9, 9, 9)], merges=[(4, 1, 4, 2), (7, 1, 7, 2), (7, 5, 7, 6)], columns=[(1, 6, False, PLAIN), (3, 5, True, PLAIN)],
                      rows=[(2, 5, False, PLAIN)], links=[((1, 2), "t"), ((2, 2), "u"), ((3, 3), "t")], frozen=(1, 0), hidden=True)
        first = Book([one, Sheet("b")], names=names(x="=1", y="=2", z="=3"))
        second = Book([other, Sheet("b", frozen=(0, 1))], active=2, names=names(v="=5", y="=4", z="=3"))
        self.assertEqual(differences(first, second), (
            ("split", "a", (5, 1, 5, 2)), ("split", "a", (9, 1, 9, 2)), ("cell", "a", (1, 1), None, None, PLAIN), ("cell", "a", (1, 2), True, None, PLAIN),
            ("cell", "a", (2, 1), None, read_formula("=A1"), PLAIN), ("cell", "a", (9, 9), 9, None, PLAIN), ("link", "a", (1, 1), None), ("link", "a", (1, 2), "t"), ("link", "a", (2, 2), "u"),
            ("merge", "a", (4, 1, 4, 2)), ("merge", "a", (7, 5, 7, 6)), ("setting", "a", "columns", 1, 6, False, PLAIN), ("setting", "a", "columns", 2, None, False, PLAIN),
            ("setting", "a", "columns", 3, 5, True, PLAIN), ("setting", "a", "rows", 1, None, False, PLAIN), ("setting", "a", "rows", 2, 5, False, PLAIN), ("freeze", "a", 1, 0), ("hide", "a", True),
            ("freeze", "b", 0, 1), ("activate", "b"), ("name", None, "x", None), ("name", None, "v", ("number", 5)), ("name", None, "y", ("number", 4))))

    def test_one_and_true_are_not_the_same(self):
        for one, other in ((1, True), (0, False), (False, 0)):
            books = [Book([Sheet("a", cells=[cell(1, 1, value)])]) for value in (one, other)]
            self.assertEqual(differences(*books), (("cell", "a", (1, 1), other, None, PLAIN),))

    def test_names_that_use_one_another(self):
        one = Book([Sheet("a")], names=names(a="=b", b="=k", k="=1"))
        other = Book([Sheet("a")], names=names(a="=1", b="=a", k="=b"))
        # "k" could only come when "b" does not use it any more.
        self.assertEqual(differences(one, other), (("name", None, "a", ("number", 1)), ("name", None, "b", ("name", "a")), ("name", None, "k", ("name", "b"))))
        # "a" would close a ring with "b" until "b" is another one; then "a" comes first again.
        one = Book([Sheet("a")], names=names(a="=1", b="=a"))
        other = Book([Sheet("a")], names=names(a="=b", b="=2", d="=3"))
        self.assertEqual([edit[2] for edit in differences(one, other)], ["b", "a", "d"])
        one = Book([Sheet("a")], names=names(a="=b", b="=1", x="=1"))
        other = Book([Sheet("a")], names=names(a="=1", b="=x", x="=a"))
        self.assertEqual([edit[2] for edit in differences(one, other)], ["a", "b", "x"])

    def test_names_that_go_come_first(self):
        one = Book([Sheet("a")], names=names(a="=z", z="=1"))
        other = Book([Sheet("a")], names=names(b="=1", y="=b"))
        self.assertEqual(differences(one, other), (("name", None, "a", None), ("name", None, "z", None), ("name", None, "b", ("number", 1)), ("name", None, "y", ("name", "b"))))

    def test_full_books(self):
        cells = [cell(row, column, 1) for row in range(1, 501) for column in (1, 2, 3, 4)]
        moved = [cell(row, column, 1) for row in range(2, 502) for column in (1, 2, 3, 4)]
        links = [((row, column), "x") for row in range(1, 501) for column in (1, 2, 3, 4)]
        one = Book([Sheet("a", cells=cells, links=links, merges=[(row, 9, row, 10) for row in range(1, 301)])], names=[(None, f"n_{at:03}", ("number", 1)) for at in range(200)])
        other = Book([Sheet("a", cells=moved, links=[((place[0] + 1, place[1]), "x") for place, _ in links], merges=[(row, 10, row, 11) for row in range(1, 301)])],
                     names=[(None, f"m_{at:03}", ("number", 1)) for at in range(200)])
        edits = differences(one, other)
        self.assertEqual(len(edits), 8 + 8 + 600 + 400)
        self.assertTrue(do_all(one, *edits).is_same(other))

    def test_merges_over_what_was_there(self):
        one = Book([Sheet("a", cells=[cell(1, 2, 1, "=1", BOLD)], links=[((2, 1), "x")], merges=[(5, 1, 6, 1)])])
        other = Book([Sheet("a", cells=[cell(1, 2, None, None, BOLD), cell(6, 1, 1)], merges=[(1, 1, 3, 3)])])
        for first, second in ((one, other), (other, one)):
            self.assertTrue(do_all(first, *differences(first, second)).is_same(second))

    def test_they_lead_from_one_book_to_the_other_and_are_as_many_as_the_things(self):
        chance = random.Random(15)
        for _ in range(60):
            one = random_book(chance)
            sheets = [random_sheet(chance, sheet.name, ["Gone"], ["rate", "tax"]) if chance.random() < 0.6 else sheet for sheet in one.sheets]
            other = Book(sheets, active=chance.randint(1, len(sheets)))
            for _ in range(chance.randint(0, 6)):
                scope = chance.choice([None, *[sheet.name for sheet in sheets]])
                edit = ("name", scope, chance.choice(("rate", "tax", "total")), ("name", chance.choice(("rate", "tax", "total"))))
                try:
                    other = do_all(other, edit)
                except Refused:
                    pass
            for first, second in ((one, other), (other, one)):
                edits = differences(first, second)
                self.assertTrue(all(is_edit(edit) and edit[0] != "all" for edit in edits))
                self.assertTrue(do_all(first, *edits).is_same(second))
                things = [thing for edit in edits for thing in changed_things(edit)]
                self.assertEqual(len(things), len(edits))
                self.assertEqual(set(things), by_hand(first, second))
                self.assertEqual(len(things), len(set(things)))

    def test_wrong_books(self):
        book = Book([Sheet("a"), Sheet("b")])
        for value in ODD_VALUES:
            self.assertEqual(caught(BadBook, differences, value, 5).given, value)
            self.assertEqual(caught(BadBook, differences, book, value).given, value)
        for sheets in ([Sheet("b"), Sheet("a")], [Sheet("a")], [Sheet("a"), Sheet("B")], [Sheet("a"), Sheet("b"), Sheet("x")]):
            other = Book(sheets)
            self.assertIs(caught(BadBook, differences, book, other).given, other)


if __name__ == "__main__":
    unittest.main()
