"""[30], [31] and gridfile/filling.py: rectangles filled and copied, and what filling loses."""

import random
import time
import unittest

from gridfile.counts import formula_cells
from gridfile.errors import BadPlace, BadRectangle, BadSheet, Covered, PastBorder, TooMuch
from gridfile.filling import copied, filled, losing_parts, safe_part
from gridfile.forms import fill, lost_by, relative, room, same_form
from gridfile.formulas import read_formula
from gridfile.model import Book, Sheet
from gridfile.places import has_place, places_in
from gridfile.runs import formula_lines
from gridfile.values import PLAIN
from support import ODD_VALUES, caught, random_sheet, remade

BOLD = ("", ("Plain", 10, True, False), None, (0, 0, 0, 0), ("general", False))
TREE = read_formula("=A1+$B$2")
NOT_PLACES = [*[value for value in ODD_VALUES if value != (1, 1)], (0, 1), (1, 703), [2, 2]]
NOT_RECTANGLES = [*[value for value in ODD_VALUES if value != (1, 1, 1, 1)], (2, 1, 1, 1), (1, 1, 10000, 1), [1, 1, 2, 2], (1, 1)]


def values_of(sheet):
    return {cell[0]: cell[1] for cell in sheet.cells}


class Filled(unittest.TestCase):
    def test_a_value_with_a_style(self):
        sheet = Sheet("a", cells=[((1, 1), 5, None, BOLD), ((2, 2), "x", TREE, PLAIN), ((9, 9), True, None, PLAIN)])
        result = filled(sheet, (1, 1), (2, 1, 3, 2))
        self.assertEqual(result.cells, (((1, 1), 5, None, BOLD), *[((row, column), 5, None, BOLD) for row in (2, 3) for column in (1, 2)],
                                        ((9, 9), True, None, PLAIN)))
        self.assertTrue(filled(sheet=sheet, start=(1, 1), rectangle=(2, 1, 3, 2)).is_same(result))
        self.assertEqual(len(sheet.cells), 3)

    def test_a_formula(self):
        sheet = Sheet("a", cells=[((2, 2), 7, TREE, PLAIN)], links=[((3, 3), "x")], frozen=(1, 1), hidden=True)
        result = filled(sheet, (2, 2), (1, 1, 3, 3))
        self.assertEqual(result.cells, tuple((place, 7, fill(TREE, (2, 2), place), PLAIN) for place in places_in((1, 1, 3, 3))))
        self.assertEqual(result.cell_at((1, 1))[1], read_formula("=#REF!+$B$2"))
        self.assertEqual(result.cell_at((2, 2)), sheet.cell_at((2, 2)))
        self.assertTrue(result.changed(cells=()).is_same(sheet.changed(cells=())))

    def test_a_style_alone_also_over_covered_places(self):
        sheet = Sheet("a", cells=[((1, 1), None, None, BOLD)], merges=[(2, 1, 3, 2)])
        result = filled(sheet, (1, 1), (1, 1, 3, 2))
        self.assertEqual(result.cells, tuple((place, None, None, BOLD) for place in places_in((1, 1, 3, 2))))
        self.assertEqual(result.merges, sheet.merges)

    def test_an_empty_start_empties_the_places(self):
        cells = [((row, 1), row, None, PLAIN) for row in range(1, 2001)]
        sheet = Sheet("a", cells=cells, merges=[(1, 1, 1, 5)])
        self.assertEqual(filled(sheet, (1, 2), (1, 1, 1500, 702)).cells, tuple(cells[1500:]))
        self.assertEqual(filled(sheet, (9999, 702), (1, 1, 9999, 702)).cells, ())
        self.assertTrue(filled(sheet, (9999, 702), (1, 2, 9999, 702)).is_same(sheet))

    def test_covered_places(self):
        merges = [(2, 3, 3, 4), (2, 6, 2, 7), (4, 1, 5, 1)]
        told = {(1, 1, 1, 9): None, (1, 1, 9, 9): (2, 4), (2, 3, 2, 3): None, (2, 3, 3, 3): (3, 3), (3, 1, 9, 9): (3, 3), (3, 4, 3, 4): (3, 4),
                (2, 5, 3, 6): None, (2, 5, 3, 9): (2, 7), (4, 1, 4, 9): None, (4, 1, 5, 1): (5, 1), (5, 1, 5, 1): (5, 1),
                (3, 1, 5, 2): (5, 1), (1, 4, 9, 9): (2, 4)}
        for start, cell in (((9, 9), (5, None, PLAIN)), ((9, 9), (None, TREE, PLAIN)), ((9, 9), (False, None, BOLD))):
            sheet = Sheet("a", cells=[(start, *cell)], merges=merges)
            for rectangle, place in told.items():
                if place is None:
                    filled(sheet, start, rectangle)
                else:
                    self.assertEqual(caught(Covered, filled, sheet, start, rectangle).place, place)
            self.assertEqual(caught(Covered, filled, sheet, start, (1, 1, 9999, 702)).place, (2, 4))

    def test_2000_cells_and_one_more(self):
        sheet = Sheet("a", cells=[((1, 1), 5, None, PLAIN), ((1, 2), 6, None, PLAIN)])
        self.assertEqual(len(filled(sheet, (1, 1), (1, 1, 1999, 1)).cells), 2000)
        self.assertEqual(len(filled(sheet, (1, 1), (1, 1, 1000, 2)).cells), 2000)
        self.assertEqual(caught(TooMuch, filled, sheet, (1, 1), (1, 1, 2000, 1)).most, 2000)
        self.assertEqual(caught(TooMuch, filled, sheet, (1, 1), (3, 1, 2001, 1)).most, 2000)
        start = time.time()
        caught(TooMuch, filled, sheet, (1, 1), (1, 1, 9999, 702))
        styled = Sheet("a", cells=[((1, 1), None, None, BOLD)])
        caught(TooMuch, filled, styled, (1, 1), (1, 1, 9999, 702))
        self.assertLess(time.time() - start, 1)

    def test_wrong_arguments_in_their_order(self):
        sheet = Sheet("a")
        for call in (filled, safe_part, losing_parts):
            for value in ODD_VALUES:
                self.assertEqual(caught(BadSheet, call, value, None, None).given, value)
            for value in NOT_PLACES:
                self.assertEqual(caught(BadPlace, call, sheet, value, None).given, value)
            for value in NOT_RECTANGLES:
                self.assertEqual(caught(BadRectangle, call, sheet, (1, 1), value).given, value)


class Lines(unittest.TestCase):
    def test_a_filled_column_or_row_within_the_room_is_one_formula_line(self):
        sheet = Sheet("a", cells=[((2, 2), None, read_formula("=A1+$C$5"), PLAIN)])
        for rectangle in ((2, 2, 900, 2), (2, 2, 2, 600)):
            lines = formula_lines(formula_cells(filled(sheet, (2, 2), rectangle)))
            self.assertEqual([line[:2] for line in lines], [(rectangle[:2], rectangle[2:])])
        self.assertEqual(len(formula_lines(formula_cells(filled(sheet, (2, 2), (1, 2, 9, 2))))), 2)

    def test_the_formulas_in_the_room_have_its_form_and_no_others(self):
        sheet = Sheet("a", cells=[((3, 3), None, read_formula("=B2:C9"), PLAIN)])
        result = filled(sheet, (3, 3), (1, 1, 5, 5))
        form = relative(read_formula("=B2:C9"), (3, 3))
        for place, other in formula_cells(result):
            self.assertEqual(other == form, has_place(room(form), place))


class Copied(unittest.TestCase):
    def test_cells_and_empty_places(self):
        sheet = Sheet("a", cells=[((1, 1), 1, None, BOLD), ((2, 2), None, TREE, PLAIN), ((5, 4), "x", None, PLAIN), ((9, 9), 9, None, PLAIN)])
        result = copied(sheet, (1, 1, 2, 2), (5, 3))
        self.assertEqual(result.cells, (*sheet.cells[:2], ((5, 3), 1, None, BOLD), ((6, 4), None, read_formula("=C5+$B$2"), PLAIN), sheet.cells[3]))
        self.assertTrue(copied(sheet=sheet, rectangle=(1, 1, 2, 2), goal=(5, 3)).is_same(result))
        self.assertEqual(copied(sheet, (2, 2, 2, 2), (1, 2)).cell_at((1, 2))[1], read_formula("=#REF!+$B$2"))

    def test_both_ends_may_overlap(self):
        sheet = Sheet("a", cells=[((row, 1), row, read_formula(f"=B{row}"), PLAIN) for row in range(1, 6)])
        self.assertEqual(values_of(copied(sheet, (1, 1, 4, 1), (2, 1))), {(1, 1): 1, (2, 1): 1, (3, 1): 2, (4, 1): 3, (5, 1): 4})
        self.assertEqual(values_of(copied(sheet, (2, 1, 5, 1), (1, 1))), {(1, 1): 2, (2, 1): 3, (3, 1): 4, (4, 1): 5, (5, 1): 5})
        self.assertEqual(copied(sheet, (1, 1, 4, 1), (2, 1)).cell_at((5, 1))[1], read_formula("=B5"))
        self.assertEqual(values_of(copied(sheet, (1, 1, 9, 1), (3, 1))), {(1, 1): 1, (2, 1): 2, **{(row, 1): row - 2 for row in range(3, 8)}})
        self.assertTrue(copied(sheet, (1, 1, 4, 1), (1, 1)).is_same(sheet))

    def test_the_border(self):
        sheet = Sheet("a", cells=[((1, 1), 5, None, PLAIN)])
        self.assertEqual(copied(sheet, (1, 1, 2, 2), (9998, 701)).cell_at((9998, 701)), (5, None, PLAIN))
        for goal in ((9999, 701), (9998, 702), (9999, 702)):
            self.assertEqual(caught(PastBorder, copied, sheet, (1, 1, 2, 2), goal).place, goal)
        self.assertTrue(copied(sheet, (1, 1, 9999, 702), (1, 1)).is_same(sheet))
        self.assertEqual(caught(PastBorder, copied, sheet, (1, 1, 9999, 702), (1, 2)).place, (1, 2))

    def test_covered_places(self):
        sheet = Sheet("a", cells=[((1, 1), None, None, BOLD), ((1, 2), 2, None, PLAIN), ((2, 1), None, TREE, PLAIN)], merges=[(5, 5, 6, 6)])
        told = {(5, 5): (5, 6), (5, 6): (6, 6), (4, 5): (5, 5), (6, 4): (6, 5), (5, 4): None, (6, 6): None, (4, 6): (5, 6), (1, 1): None}
        for goal, place in told.items():
            if place in (None, (5, 5)):
                copied(sheet, (1, 1, 2, 2), goal)
            else:
                self.assertEqual(caught(Covered, copied, sheet, (1, 1, 2, 2), goal).place, place)

    def test_2000_cells_and_one_more(self):
        sheet = Sheet("a", cells=[((row, 1), row, None, PLAIN) for row in range(1, 1001)])
        self.assertEqual(len(copied(sheet, (1, 1, 1000, 1), (1, 2)).cells), 2000)
        self.assertEqual(len(copied(sheet, (1, 1, 9999, 1), (1, 2)).cells), 2000)
        fuller = sheet.with_cell((9999, 9), 5)
        self.assertEqual(caught(TooMuch, copied, fuller, (1, 1, 1000, 1), (1, 2)).most, 2000)
        self.assertEqual(len(copied(fuller, (1, 1, 1000, 1), (2, 1)).cells), 1002)

    def test_the_order_of_errors(self):
        sheet = Sheet("a", cells=[((row, 1), row, None, PLAIN) for row in range(1, 1501)], merges=[(3, 3, 4, 4)])
        for value in ODD_VALUES:
            self.assertEqual(caught(BadSheet, copied, value, None, None).given, value)
        for value in NOT_RECTANGLES:
            self.assertEqual(caught(BadRectangle, copied, sheet, value, None).given, value)
        for value in NOT_PLACES:
            self.assertEqual(caught(BadPlace, copied, sheet, (1, 1, 2, 2), value).given, value)
        self.assertEqual(caught(PastBorder, copied, sheet, (1, 1, 9999, 1), (2, 4)).place, (2, 4))
        self.assertEqual(caught(Covered, copied, sheet, (1, 1, 1500, 1), (1, 4)).place, (3, 4))
        self.assertEqual(caught(Covered, copied, sheet, (1, 1, 1500, 1), (1, 3)).place, (4, 3))
        self.assertEqual(caught(TooMuch, copied, sheet, (1, 1, 1500, 1), (1, 5)).most, 2000)


class Made(unittest.TestCase):
    """What is filled or copied is not checked again, so it must be right by itself."""

    def test_the_sheets_are_ones_that_their_own_parts_make(self):
        chance = random.Random(21)
        found = 0
        for _ in range(150):
            sheet = random_sheet(chance, "a", [None, "a", "b"], ["rate"])
            start = chance.choice([cell[0] for cell in sheet.cells] or [(1, 1)])
            top, left = chance.randint(1, 9), chance.randint(1, 5)
            rectangle = (top, left, top + chance.randint(0, 5), left + chance.randint(0, 3))
            for call, given in ((filled, (start, rectangle)), (copied, (rectangle, (chance.randint(1, 12), chance.randint(1, 8))))):
                try:
                    made = call(sheet, *given)
                except Covered:
                    continue
                found += 1
                self.assertTrue(remade(Book([made])).is_same(Book([made])))
                # The other parts stay, and so does the sheet itself.
                self.assertTrue(made.changed(cells=sheet.cells).is_same(sheet))
                for place in places_in(rectangle) if call is filled else ():
                    value, formula, style = sheet.cell_at(start)
                    self.assertEqual(made.cell_at(place), (value, None if formula is None else fill(formula, start, place), style))
        self.assertGreater(found, 150)

    def test_full_sheets_take_no_long(self):
        begun = time.process_time()
        full = filled(Sheet("S").with_cell((1, 1), 1), (1, 1), (1, 1, 4, 500))
        self.assertEqual(len(full.cells), 2000)
        for _ in range(50):
            self.assertTrue(copied(full, (1, 1, 1, 9), (2, 10)).is_same(full))
            self.assertEqual(filled(full, (9, 9), (1, 1, 6, 600)).cells, ())
        self.assertLess(time.process_time() - begun, 1)


class Losing(unittest.TestCase):
    def test_rooms_that_end_inside_of_the_rectangle(self):
        sheet = Sheet("a", cells=[((5, 5), None, read_formula("=C4:D9995"), PLAIN)])
        # The room: rows from 2 to 9, columns from 3 to 702.
        told = {(1, 1, 12, 5): ((2, 3, 9, 5), ((1, 1, 1, 5), (2, 1, 9, 2), (10, 1, 12, 5))), (3, 3, 9, 702): ((3, 3, 9, 702), ()),
                (1, 1, 1, 9): (None, ((1, 1, 1, 9),)), (2, 1, 9, 2): (None, ((2, 1, 9, 2),)), (9, 2, 10, 3): ((9, 3, 9, 3), ((9, 2, 9, 2), (10, 2, 10, 3))),
                (1, 1, 9999, 702): ((2, 3, 9, 702), ((1, 1, 1, 702), (2, 1, 9, 2), (10, 1, 9999, 702)))}
        for rectangle, (safe, losing) in told.items():
            self.assertEqual(safe_part(sheet, (5, 5), rectangle), safe)
            self.assertEqual(losing_parts(sheet, (5, 5), rectangle), losing)
        self.assertEqual(safe_part(sheet=sheet, start=(5, 5), rectangle=(1, 1, 2, 3)), (2, 3, 2, 3))
        self.assertEqual(losing_parts(sheet=sheet, start=(5, 5), rectangle=(2, 3, 2, 3)), ())

    def test_right_of_the_room(self):
        sheet = Sheet("a", cells=[((5, 5), None, read_formula("=ZY5"), PLAIN)])
        self.assertEqual(safe_part(sheet, (5, 5), (1, 1, 2, 8)), (1, 1, 2, 6))
        self.assertEqual(losing_parts(sheet, (5, 5), (1, 1, 2, 8)), ((1, 7, 2, 8),))

    def test_no_formula_and_no_loss(self):
        sheet = Sheet("a", cells=[((1, 1), 5, None, PLAIN), ((1, 2), None, read_formula("=$A$1+#REF!"), PLAIN)])
        for start in ((1, 1), (1, 2), (9, 9)):
            for rectangle in ((1, 1, 1, 1), (1, 1, 9999, 702)):
                self.assertEqual(safe_part(sheet, start, rectangle), rectangle)
                self.assertEqual(losing_parts(sheet, start, rectangle), ())

    def test_they_are_the_places_at_which_filling_loses_something(self):
        chance = random.Random(18)
        for _ in range(60):
            rows = [chance.choice((1, 2, 4, 9997, 9999)) for _ in range(2)]
            tree = ("range", None, (rows[0], chance.randint(1, 4), chance.random() < 0.3, False), (rows[1], 2, False, False))
            sheet = Sheet("a", cells=[((3, 3), 5, tree, PLAIN)])
            rectangle = (chance.randint(1, 3), chance.randint(1, 3), chance.randint(3, 6), chance.randint(3, 6))
            safe, losing = safe_part(sheet, (3, 3), rectangle), losing_parts(sheet, (3, 3), rectangle)
            there = [] if safe is None else list(places_in(safe))
            others = [place for part in losing for place in places_in(part)]
            self.assertEqual(sorted(there + others), list(places_in(rectangle)))
            result = filled(sheet, (3, 3), rectangle)
            for place in places_in(rectangle):
                self.assertEqual(place in there, lost_by(tree, (3, 3), place) == [])
                self.assertEqual(place in there, same_form(tree, (3, 3), result.cell_at(place)[1], place))


if __name__ == "__main__":
    unittest.main()
