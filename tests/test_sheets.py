"""[2], [8] and class Sheet of gridfile/model.py: cells, settings, links, sheets."""

import itertools
import random
import unittest

from gridfile.errors import (BadCells, BadColumns, BadFrozen, BadHidden, BadLinks, BadMerges, BadNumber, BadPlace, BadRows,
                             BadSheetName, BadStyle, BadTree, BadValue, Covered, TooMuch)
from gridfile.model import MOST_CELLS, MOST_SHEETS, Book, Sheet
from gridfile.values import PLAIN
from support import ODD_VALUES, caught

BOLD = ("", ("Plain", 10, True, False), None, (0, 0, 0, 0), ("general", False))
TREE = ("number", 5)
NO_ROWS = [value for value in ODD_VALUES if not isinstance(value, (list, tuple))]
NOT_PLACES = [None, 5, "A1", (), (1,), (0, 1), (1, 0), (10000, 1), (1, 703), (True, 1), (1, True), [1, 1], (1, 1, 1), (1.0, 1)]


def cell(row, column, value="x", formula=None, style=PLAIN):
    return ((row, column), value, formula, style)


class Constructor(unittest.TestCase):
    def test_a_sheet_without_anything(self):
        sheet = Sheet("Data")
        self.assertEqual((sheet.name, sheet.cells, sheet.merges, sheet.columns, sheet.rows, sheet.frozen, sheet.links,
                          sheet.hidden), ("Data", (), (), (), (), (0, 0), (), False))
        self.assertIs(sheet.hidden, False)
        self.assertEqual((MOST_CELLS, MOST_SHEETS), (2000, 30))

    def test_all_parts(self):
        parts = {"cells": [cell(1, 2), cell(2, 1, None, TREE), cell(2, 3, None, None, BOLD)], "merges": [(3, 1, 4, 2)],
                 "columns": [(1, 20, False, PLAIN), (702, None, True, PLAIN)], "rows": [(9999, None, False, BOLD)],
                 "frozen": (9999, 702), "links": [((1, 1), "x"), ((3, 1), "y" * 200)], "hidden": True}
        sheet = Sheet(name="a", **parts)
        for word, part in parts.items():
            expected = tuple(part) if isinstance(part, list) else part
            self.assertEqual(getattr(sheet, word), expected)
            self.assertIs(type(getattr(sheet, word)), type(expected))

    def test_all_but_the_name_are_passed_by_name(self):
        with self.assertRaises(TypeError):
            Sheet("a", ())
        with self.assertRaises(TypeError):
            Sheet()

    def test_lists_that_are_passed_are_not_kept_or_changed(self):
        lists = {"cells": [cell(1, 1)], "merges": [(1, 1, 2, 2)], "columns": [(1, 5, False, PLAIN)],
                 "rows": [(1, 5, False, PLAIN)], "links": [((1, 1), "x")]}
        before = {word: list(part) for word, part in lists.items()}
        sheet = Sheet("a", **lists)
        self.assertEqual(lists, before)
        for part in lists.values():
            part.clear()
        for word, part in before.items():
            self.assertEqual(getattr(sheet, word), tuple(part))
        self.assertEqual((sheet.cell_at((1, 1)), sheet.merge_at((2, 1))), (("x", None, PLAIN), (1, 1, 2, 2)))

    def test_wrong_names(self):
        for value in ["", " a", "a ", "a/b", "x" * 32, *[value for value in ODD_VALUES if value != "A1"]]:
            self.assertIs(caught(BadSheetName, Sheet, value).given, value)

    def test_wrong_frozen(self):
        for value in [None, (), (0,), (0, 0, 0), [0, 0], (-1, 0), (0, -1), (10000, 0), (0, 703), (True, 0), (0, False),
                      (0.0, 0), ("0", 0), 0, "00", (None, None)]:
            self.assertIs(caught(BadFrozen, Sheet, "a", frozen=value).given, value)
        for value in ((0, 0), (9999, 702), (1, 0)):
            self.assertEqual(Sheet("a", frozen=value).frozen, value)

    def test_wrong_hidden(self):
        for value in [value for value in ODD_VALUES if not isinstance(value, bool)]:
            self.assertIs(caught(BadHidden, Sheet, "a", hidden=value).given, value)

    def test_what_is_no_list_or_tuple(self):
        kinds = {"cells": BadCells, "merges": BadMerges, "columns": BadColumns, "rows": BadRows, "links": BadLinks}
        for word, kind in kinds.items():
            for value in NO_ROWS:
                self.assertIsNone(caught(kind, Sheet, "a", **{word: value}).at)


class Cells(unittest.TestCase):
    WRONG = [None, 5, (), [(1, 1), "x", None, PLAIN], cell(1, 1)[:3], cell(1, 1) + (None,), cell(1, 1, None),
             cell(1, 1, 1.0), cell(1, 1, "x" * 201), cell(1, 1, ("error", "x")), cell(1, 1, "x", ()), cell(1, 1, "x", "=5"),
             cell(1, 1, "x", ("number", -1)), cell(1, 1, "x", ("rcell", None, (0, 0, False, False))), cell(1, 1, "x", False),
             cell(1, 1, "x", None, None), cell(1, 1, "x", None, PLAIN[:4]), cell(1, 1, "x", None, list(PLAIN)),
             cell(1, 1, "x", None, ("", ("Plain", 10, 0, 0), None, (0, 0, 0, 0), ("general", False)))]

    def test_right_cells(self):
        for right in (cell(1, 1), cell(9999, 702, False), cell(1, 1, 0), cell(1, 1, None, TREE), cell(1, 1, None, None, BOLD),
                      cell(1, 1, ""), cell(1, 1, ("error", "REF"), ("lost",), BOLD)):
            self.assertEqual(Sheet("a", cells=[right]).cells, (right,))

    def test_each_wrong_cell(self):
        wrong = self.WRONG + [(place, "x", None, PLAIN) for place in NOT_PLACES] + list(ODD_VALUES)
        for value in wrong:
            self.assertEqual(caught(BadCells, Sheet, "a", cells=[value]).at, 0)
            self.assertEqual(caught(BadCells, Sheet, "a", cells=(cell(1, 1), value, None)).at, 1)

    def test_order(self):
        ascending = [cell(1, 1), cell(1, 2), cell(1, 702), cell(2, 1), cell(9999, 1)]
        self.assertEqual(Sheet("a", cells=ascending).cells, tuple(ascending))
        for one, other in itertools.combinations(range(5), 2):
            turned = list(ascending)
            turned[one], turned[other] = turned[other], turned[one]
            self.assertEqual(caught(BadCells, Sheet, "a", cells=turned).at, one + 1)
        self.assertEqual(caught(BadCells, Sheet, "a", cells=[cell(1, 1), cell(1, 2), cell(1, 2, "y")]).at, 2)

    def test_two_thousand_and_one_more(self):
        cells = [cell(row, 1) for row in range(1, 2002)]
        self.assertEqual(len(Sheet("a", cells=cells[:2000]).cells), 2000)
        self.assertEqual(caught(BadCells, Sheet, "a", cells=cells).at, 2000)
        self.assertEqual(caught(BadCells, Sheet, "a", cells=cells[:1500] + [None] + cells[1500:]).at, 1500)

    def test_covered_places(self):
        merges = [(1, 1, 2, 2), (4, 4, 4, 5)]
        right = [cell(1, 1), cell(1, 2, None, None, BOLD), cell(1, 3), cell(4, 4, None, TREE)]
        self.assertEqual(Sheet("a", cells=right, merges=merges).cells, tuple(right))
        self.assertEqual(caught(BadCells, Sheet, "a", cells=[cell(1, 1), cell(1, 2)], merges=merges).at, 1)
        self.assertEqual(caught(BadCells, Sheet, "a", cells=[cell(2, 1, None, TREE)], merges=merges).at, 0)
        self.assertEqual(caught(BadCells, Sheet, "a", cells=[*right, cell(4, 5, False)], merges=merges).at, 4)

    def test_wrong_merges_cover_nothing(self):
        wrong = [(1, 1, 2, 2), (1, 1, 2, 2)]
        self.assertEqual(caught(BadMerges, Sheet, "a", cells=[cell(1, 2)], merges=wrong, links=None).at, 1)
        self.assertEqual(caught(BadCells, Sheet, "a", cells=[cell(1, 2), None], merges=wrong).at, 1)


class Merges(unittest.TestCase):
    def test_right_merges(self):
        for merges in ([(1, 1, 1, 2)], [(1, 1, 9999, 702)], [(1, 1, 2, 1), (1, 2, 2, 2), (3, 1, 4, 2)],
                       [(1, 5, 9, 5), (2, 1, 3, 4)]):
            self.assertEqual(Sheet("a", merges=merges).merges, tuple(merges))

    def test_each_wrong_merge(self):
        wrong = [None, 5, (), "A1:B2", (2, 1, 1, 1), (1, 1, 1, 1), (0, 1, 2, 2), (1, 1, 10000, 2), (1, 1, 2, 703), (True, 1, 2, 2),
                 (1, 1, 2, 2.0), [1, 1, 2, 2], (1, 1, 2), (1, 1, 2, 2, 2), *ODD_VALUES]
        for value in wrong:
            self.assertEqual(caught(BadMerges, Sheet, "a", merges=[value]).at, 0)
            self.assertEqual(caught(BadMerges, Sheet, "a", merges=((1, 5, 1, 6), value, None)).at, 1)

    def test_order_and_places_in_common(self):
        self.assertEqual(caught(BadMerges, Sheet, "a", merges=[(3, 1, 4, 1), (1, 1, 2, 1)]).at, 1)
        self.assertEqual(caught(BadMerges, Sheet, "a", merges=[(1, 3, 2, 4), (1, 1, 2, 2)]).at, 1)
        self.assertEqual(caught(BadMerges, Sheet, "a", merges=[(1, 1, 2, 2), (1, 1, 2, 2)]).at, 1)
        self.assertEqual(caught(BadMerges, Sheet, "a", merges=[(1, 1, 2, 2), (1, 1, 2, 3)]).at, 1)
        self.assertEqual(caught(BadMerges, Sheet, "a", merges=[(1, 1, 2, 2), (2, 2, 3, 3)]).at, 1)
        self.assertEqual(caught(BadMerges, Sheet, "a", merges=[(1, 1, 9, 9), (2, 2, 3, 3)]).at, 1)
        self.assertEqual(caught(BadMerges, Sheet, "a", merges=[(1, 5, 9, 5), (2, 1, 3, 4), (4, 1, 5, 9)]).at, 2)

    def test_pairs_against_sets_of_places(self):
        some = [(top, left, bottom, right) for top in (1, 2, 3) for bottom in (2, 3) for left in (1, 2, 3) for right in (2, 3)
                if top <= bottom and left <= right and (top, left) != (bottom, right)]
        for one, other in itertools.product(some, repeat=2):
            places = [set(itertools.product(range(each[0], each[2] + 1), range(each[1], each[3] + 1)))
                      for each in (one, other)]
            if one < other and not places[0] & places[1]:
                self.assertEqual(Sheet("a", merges=(one, other)).merges, (one, other))
            else:
                self.assertEqual(caught(BadMerges, Sheet, "a", merges=(one, other)).at, 1)

    def test_three_hundred_and_one_more(self):
        merges = [(row, 1, row, 2) for row in range(1, 302)]
        self.assertEqual(len(Sheet("a", merges=merges[:300]).merges), 300)
        self.assertEqual(caught(BadMerges, Sheet, "a", merges=merges).at, 300)


class Settings(unittest.TestCase):
    def test_both_kinds(self):
        for word, kind, most in (("columns", BadColumns, 702), ("rows", BadRows, 9999)):
            right = [(1, None, True, PLAIN), (2, 0, False, PLAIN), (5, 1000, False, PLAIN), (most, None, False, BOLD)]
            self.assertEqual(getattr(Sheet("a", **{word: right}), word), tuple(right))
            wrong = [None, (), (3, None, False, PLAIN), (0, 5, False, PLAIN), (most + 1, 5, False, PLAIN), (True, 5, False, PLAIN),
                     (3, -1, False, PLAIN), (3, 1001, False, PLAIN), (3, True, False, PLAIN), (3, "5", False, PLAIN),
                     (3, 5, 0, PLAIN), (3, 5, None, PLAIN), (3, 5, False, None), (3, 5, False, PLAIN[:4]), (3, 5, False),
                     [3, 5, False, PLAIN], (3, 5, False, PLAIN, 1), (None, 5, False, PLAIN), ((3,), 5, False, PLAIN),
                     (3, 5.0, False, PLAIN), *ODD_VALUES]
            for value in wrong:
                self.assertEqual(caught(kind, Sheet, "a", **{word: [value]}).at, 0)
                self.assertEqual(caught(kind, Sheet, "a", **{word: (*right[:2], value)}).at, 2)
            self.assertEqual(caught(kind, Sheet, "a", **{word: right[::-1]}).at, 1)
            self.assertEqual(caught(kind, Sheet, "a", **{word: [right[1], right[1]]}).at, 1)
            many = [(number, 1, False, PLAIN) for number in range(1, most + 1)]
            self.assertEqual(len(getattr(Sheet("a", **{word: many}), word)), most)
            self.assertEqual(caught(kind, Sheet, "a", **{word: [*many, many[-1]]}).at, most)


class Links(unittest.TestCase):
    def test_right_and_wrong_ones(self):
        right = [((1, 1), "x"), ((1, 2), " "), ((2, 1), "y\nz"), ((9999, 702), "z" * 200)]
        self.assertEqual(Sheet("a", links=right).links, tuple(right))
        wrong = [None, (), ((3, 1),), ((3, 1), "x", "x"), [(3, 1), "x"], ((3, 1), ""), ((3, 1), "x" * 201), ((3, 1), None),
                 ((3, 1), chr(37)), ((3, 1), "\t"), ((3, 1), b"x"), ((3, 1), ("x",)), "xy", *ODD_VALUES]
        for value in wrong + [(place, "x") for place in NOT_PLACES]:
            self.assertEqual(caught(BadLinks, Sheet, "a", links=[value]).at, 0)
            self.assertEqual(caught(BadLinks, Sheet, "a", links=(*right[:3], value)).at, 3)
        self.assertEqual(caught(BadLinks, Sheet, "a", links=[right[1], right[0]]).at, 1)
        self.assertEqual(caught(BadLinks, Sheet, "a", links=[right[0], ((1, 1), "y")]).at, 1)

    def test_two_thousand_and_one_more(self):
        links = [((row, 1), "x") for row in range(1, 2002)]
        self.assertEqual(len(Sheet("a", links=links[:2000]).links), 2000)
        self.assertEqual(caught(BadLinks, Sheet, "a", links=links).at, 2000)

    def test_covered_places(self):
        merges = [(1, 1, 2, 2)]
        self.assertEqual(Sheet("a", links=[((1, 1), "x"), ((1, 3), "x")], merges=merges).link_at((1, 1)), "x")
        self.assertEqual(caught(BadLinks, Sheet, "a", links=[((1, 1), "x"), ((2, 2), "x")], merges=merges).at, 1)


class ErrorsInOrder(unittest.TestCase):
    def test_the_first_part_first(self):
        wrong = [("name", "a/b", BadSheetName, "given", "a/b"), ("cells", [cell(1, 1), None], BadCells, "at", 1),
                 ("merges", [(1, 1, 1, 1)], BadMerges, "at", 0), ("columns", 5, BadColumns, "at", None),
                 ("rows", [(1, None, False, PLAIN)], BadRows, "at", 0), ("frozen", (1, True), BadFrozen, "given", (1, True)),
                 ("links", [((1, 1), "x"), ((1, 1), "x")], BadLinks, "at", 1), ("hidden", 1, BadHidden, "given", 1)]
        for at, (_, _, kind, field, value) in enumerate(wrong):
            parts = {"name": "a", **{word: part for word, part, _, _, _ in wrong[at:]}}
            self.assertEqual(getattr(caught(kind, Sheet, **parts), field), value)
            parts = {word: part for word, part, _, _, _ in wrong[at:]}
            self.assertEqual(getattr(caught(kind, Sheet("a").changed, **parts), field), value)


class Questions(unittest.TestCase):
    SHEET = Sheet("a", cells=[cell(1, 1), cell(2, 2, True, TREE, BOLD)], merges=[(2, 2, 4, 4), (6, 1, 6, 2)],
                  columns=[(2, 30, False, PLAIN)], rows=[(3, None, True, BOLD)], links=[((2, 2), "x")])

    def test_cells_settings_and_links(self):
        self.assertEqual(self.SHEET.cell_at((1, 1)), ("x", None, PLAIN))
        self.assertEqual(self.SHEET.cell_at(place=(2, 2)), (True, TREE, BOLD))
        self.assertEqual(self.SHEET.cell_at((9999, 702)), (None, None, PLAIN))
        self.assertEqual(self.SHEET.cell_at((3, 3)), (None, None, PLAIN))
        self.assertEqual((self.SHEET.link_at((2, 2)), self.SHEET.link_at(place=(1, 1))), ("x", None))
        self.assertEqual((self.SHEET.column_setting(2), self.SHEET.column_setting(column=702)),
                         ((30, False, PLAIN), (None, False, PLAIN)))
        self.assertEqual((self.SHEET.row_setting(3), self.SHEET.row_setting(row=9999)),
                         ((None, True, BOLD), (None, False, PLAIN)))

    def test_merges(self):
        for row, column in itertools.product(range(1, 8), range(1, 6)):
            merge = next((merge for merge in self.SHEET.merges
                          if merge[0] <= row <= merge[2] and merge[1] <= column <= merge[3]), None)
            self.assertEqual(self.SHEET.merge_at(place=(row, column)), merge)
            expected = merge is not None and merge[:2] != (row, column)
            self.assertIs(self.SHEET.is_covered(place=(row, column)), expected)

    def test_refused_places(self):
        for call in (self.SHEET.cell_at, self.SHEET.merge_at, self.SHEET.is_covered, self.SHEET.link_at):
            for value in NOT_PLACES + list(ODD_VALUES):
                self.assertIs(caught(BadPlace, call, value).given, value)
        for call, most in ((self.SHEET.column_setting, 702), (self.SHEET.row_setting, 9999)):
            for value in (0, -1, most + 1, True, False, None, "A", 1.0, (1,), [], {}):
                self.assertIs(caught(BadPlace, call, value).given, value)


class Changes(unittest.TestCase):
    def test_with_cell(self):
        empty = Sheet("a")
        one = empty.with_cell((2, 2), "x")
        two = one.with_cell(place=(1, 5), value=None, formula=TREE, style=BOLD)
        three = two.with_cell((2, 2), 7, TREE)
        four = three.with_cell((2, 2), None)
        five = four.with_cell((3, 3), None, None, PLAIN)
        self.assertEqual(empty.cells, ())
        self.assertEqual(one.cells, (cell(2, 2),))
        self.assertEqual(two.cells, (cell(1, 5, None, TREE, BOLD), cell(2, 2)))
        self.assertEqual(three.cells, (cell(1, 5, None, TREE, BOLD), cell(2, 2, 7, TREE)))
        self.assertEqual(four.cells, (cell(1, 5, None, TREE, BOLD),))
        self.assertIs(four.is_same(five), True)
        self.assertEqual((three.cell_at((2, 2)), two.cell_at((2, 2)), four.cell_at((2, 2))),
                         ((7, TREE, PLAIN), ("x", None, PLAIN), (None, None, PLAIN)))

    def test_with_cell_keeps_the_other_parts(self):
        sheet = Sheet("a", merges=[(5, 5, 6, 6)], columns=[(1, 5, False, PLAIN)], rows=[(1, 5, False, PLAIN)], frozen=(1, 2),
                      links=[((1, 1), "x")], hidden=True)
        other = sheet.with_cell((1, 1), "x")
        self.assertIs(other.is_same(sheet.changed(cells=[cell(1, 1)])), True)
        self.assertEqual((other.link_at((1, 1)), other.column_setting(1)[0], other.row_setting(1)[0], other.merge_at((5, 6))),
                         ("x", 5, 5, (5, 5, 6, 6)))
        self.assertIs(other.with_cell((1, 1), None).is_same(sheet), True)

    def test_refusals_of_with_cell_in_their_order(self):
        sheet = Sheet("a", merges=[(1, 1, 2, 2)])
        self.assertEqual(caught(BadPlace, sheet.with_cell, (0, 1), 1.0, 5, None).given, (0, 1))
        for value in NOT_PLACES:
            self.assertIs(caught(BadPlace, sheet.with_cell, value, 1).given, value)
        self.assertEqual(caught(BadValue, sheet.with_cell, (1, 2), 1.0, 5, None).given, 1.0)
        for value in ("x" * 201, 10 ** 15 + 1, ("error", "x"), [], ()):
            self.assertIs(caught(BadValue, sheet.with_cell, (3, 3), value).given, value)
        self.assertEqual(caught(BadTree, sheet.with_cell, (1, 2), 1, 5, None).given, 5)
        for value in (False, 0, "", (), ("number", -1), ("rcell", None, (0, 0, False, False))):
            self.assertIs(caught(BadTree, sheet.with_cell, (3, 3), 1, value).given, value)
        self.assertIs(caught(BadStyle, sheet.with_cell, (1, 2), 1, TREE, None).given, None)
        self.assertEqual(caught(Covered, sheet.with_cell, (1, 2), 1).place, (1, 2))
        self.assertEqual(caught(Covered, sheet.with_cell, (2, 2), None, TREE).place, (2, 2))
        self.assertEqual(caught(Covered, sheet.with_cell, (2, 1), False).place, (2, 1))
        self.assertEqual(sheet.with_cell((1, 1), 1).with_cell((1, 2), None, None, BOLD).cell_at((1, 2)), (None, None, BOLD))
        self.assertEqual(sheet.with_cell((1, 2), None).cells, ())
        self.assertEqual(sheet.cells, ())

    def test_two_thousand_cells(self):
        full = Sheet("a", cells=[cell(row, 1) for row in range(1, 2001)], merges=[(1, 2, 1, 3)])
        self.assertEqual(caught(TooMuch, full.with_cell, (1, 2), 1).most, 2000)
        self.assertEqual(caught(TooMuch, full.with_cell, (9999, 1), None, None, BOLD).most, 2000)
        self.assertEqual(caught(Covered, full.with_cell, (1, 3), 1).place, (1, 3))
        self.assertEqual(full.with_cell((5, 1), "y").cell_at((5, 1))[0], "y")
        self.assertIs(full.with_cell((5, 2), None).is_same(full), True)
        less = full.with_cell((2000, 1), None)
        self.assertEqual((len(less.cells), len(less.with_cell((9, 9), 1).cells)), (1999, 2000))

    def test_changed(self):
        sheet = Sheet("a", cells=[cell(1, 1)])
        other = sheet.changed(name="b", hidden=True, links=[((1, 1), "x")])
        self.assertEqual((other.name, other.hidden, other.links, other.cells), ("b", True, (((1, 1), "x"),), sheet.cells))
        self.assertEqual((sheet.name, sheet.hidden, sheet.links), ("a", False, ()))
        self.assertIs(sheet.changed().is_same(sheet), True)
        self.assertEqual(caught(BadCells, sheet.changed, merges=[(1, 1, 2, 1)], cells=[cell(2, 1)]).at, 0)
        self.assertEqual(caught(BadCells, other.with_cell((1, 2), 1).changed, merges=[(1, 1, 1, 2)]).at, 1)

    def test_other_names_of_parts(self):
        sheet = Sheet("a")
        self.assertEqual(caught(BadNumber, sheet.changed, color=1, cells=None).given, "color")
        self.assertEqual(caught(BadNumber, sheet.changed, cells=None, Name="", other=1).given, "Name")
        self.assertEqual(caught(BadNumber, sheet.changed, merge=(), cell=()).given, "merge")
        self.assertEqual(caught(BadNumber, sheet.changed, sheets=()).given, "sheets")

    def test_random_rows_of_changes(self):
        chance = random.Random(3)
        sheet, cells, olds = Sheet("a"), {}, []
        for _ in range(400):
            place = (chance.randrange(1, 8), chance.randrange(1, 8))
            content = (chance.choice([None, 1, True, "x"]), chance.choice([None, TREE]), chance.choice([PLAIN, BOLD]))
            olds.append((sheet, sheet.cells))
            sheet = sheet.with_cell(place, *content)
            cells[place] = content
            if content == (None, None, PLAIN):
                del cells[place]
            expected = Sheet("a", cells=[(where, *cells[where]) for where in sorted(cells)])
            self.assertIs(sheet.is_same(expected), True)
            self.assertEqual(sheet.cell_at(place), content)
        for old, told in olds:
            self.assertEqual(old.cells, told)


class SameSheets(unittest.TestCase):
    def test_each_part_counts(self):
        parts = {"cells": [cell(1, 1)], "merges": [(3, 3, 4, 4)], "columns": [(1, 5, False, PLAIN)],
                 "rows": [(1, 5, False, PLAIN)], "frozen": (1, 1), "links": [((1, 1), "x")], "hidden": True}
        sheet = Sheet("a", **parts)
        self.assertIs(sheet.is_same(Sheet("a", **parts)), True)
        self.assertIs(sheet.is_same(other=sheet), True)
        self.assertIs(sheet.is_same(Sheet("A", **parts)), False)
        empty = Sheet("a")
        for word in parts:
            self.assertIs(sheet.is_same(sheet.changed(**{word: getattr(empty, word)})), False, word)

    def test_kinds_count(self):
        for one, other in ((True, 1), (False, 0), (1, True), ("1", 1), (None, "")):
            sheets = [Sheet("a", cells=[cell(1, 1, value, None, BOLD)]) for value in (one, other)]
            self.assertIs(sheets[0].is_same(sheets[1]), False)

    def test_what_is_no_sheet(self):
        sheet = Sheet("a")
        for value in (*ODD_VALUES, Book([sheet]), "a", Sheet):
            self.assertIs(sheet.is_same(value), False)


if __name__ == "__main__":
    unittest.main()
