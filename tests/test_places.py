"""[4] and gridfile/places.py: the grid, places, columns, rectangles and their names."""

import itertools
import unittest

from gridfile.errors import BadPlace, BadRectangle
from gridfile.places import (MOST_COLUMN, MOST_ROW, column_name, column_number, common, has_place, hull, is_place,
                             is_rectangle, place_at, place_name, places_in, rectangle_at, rectangle_name, rectangle_of,
                             size_of, without)
from support import ODD_VALUES, caught

WRONG_PLACES = [value for value in ODD_VALUES] + [
    (0, 1), (1, 0), (10000, 1), (1, 703), (-1, 1), (1, -1), (True, 1), (1, True), (1.0, 1), (1, 1.0), [1, 1], "A1",
    (1, 1, 1), (1,), ((1, 1), (1, 1)), (None, 1), ("1", 1), (10 ** 30, 1), (1, 10 ** 5000)]
WRONG_RECTANGLES = [value for value in ODD_VALUES] + [
    (2, 1, 1, 1), (1, 2, 1, 1), (0, 1, 1, 1), (1, 0, 1, 1), (1, 1, 10000, 1), (1, 1, 1, 703), (True, 1, 1, 1),
    (1, True, 1, 1), (1, 1, True, 1), (1, 1, 1, True), (1, 1, 1, 1.0), [1, 1, 1, 1], (1, 1, 1), (1, 1, 1, 1, 1),
    ((1, 1), (1, 1)), "A1:A1", (-1, -1, 1, 1), (1, 1), (1, 1, None, 1)]
SMALL_RECTANGLES = [(top, left, bottom, right) for top in range(1, 5) for bottom in range(top, 5)
                    for left in range(1, 5) for right in range(left, 5)]


def set_of(rectangle):
    top, left, bottom, right = rectangle
    return {(row, column) for row in range(top, bottom + 1) for column in range(left, right + 1)}


class Grid(unittest.TestCase):
    def test_borders(self):
        self.assertEqual((MOST_ROW, MOST_COLUMN), (9999, 702))
        for place in ((1, 1), (9999, 1), (1, 702), (9999, 702), (12, 28)):
            self.assertIs(is_place(place), True)
        for rectangle in ((1, 1, 1, 1), (1, 1, 9999, 702), (9999, 702, 9999, 702), (2, 3, 4, 5), (1, 2, 9999, 2)):
            self.assertIs(is_rectangle(rectangle), True)

    def test_values_that_are_none(self):
        for value in WRONG_PLACES:
            self.assertIs(is_place(value), False)
        for value in WRONG_RECTANGLES:
            self.assertIs(is_rectangle(value), False)
        self.assertIs(is_place(value=(1, True)), False)
        self.assertIs(is_rectangle(value=(1, 1, 1, 1)), True)


class ColumnNames(unittest.TestCase):
    def test_all_columns_there_and_back(self):
        letters = "ABCDEFGHIJKLMNOPQRSTUVWXYZ"
        names = list(letters) + [one + two for one in letters for two in letters]
        self.assertEqual([column_name(column) for column in range(1, 703)], names)
        self.assertEqual([column_number(name) for name in names], list(range(1, 703)))

    def test_borders(self):
        self.assertEqual([column_name(column) for column in (1, 26, 27, 52, 53, 702)], ["A", "Z", "AA", "AZ", "BA", "ZZ"])
        self.assertEqual((column_name(column=28), column_number(text="AB")), ("AB", 28))

    def test_refused_numbers(self):
        for column in (0, 703, -1, True, False, None, "A", 1.0, (1,), [], 10 ** 5000):
            self.assertIs(caught(BadPlace, column_name, column).given, column)

    def test_refused_names(self):
        for text in ("", "a", "aa", "aA", "Aa", "AAA", "A ", " A", "A1", "1", "-A", "+A", "$A", "\u0410", None, 1, True, b"A",
                     ["A"], ("A",), "A" * 10 ** 6):
            self.assertIs(caught(BadPlace, column_number, text).given, text)


class PlaceNames(unittest.TestCase):
    def test_there_and_back(self):
        names = {"A1": (1, 1), "Z9": (9, 26), "AA10": (10, 27), "AB12": (12, 28), "ZZ9999": (9999, 702), "A9999": (9999, 1),
                 "ZZ1": (1, 702)}
        for name, place in names.items():
            self.assertEqual(place_name(place), name)
            self.assertEqual(place_at(name), place)
        for place in itertools.product((1, 2, 9, 10, 99, 100, 999, 1000, 9998, 9999), range(1, 703)):
            self.assertEqual(place_at(place_name(place)), place)
        self.assertEqual(place_name(place=(2, 1)), place_at(text="A2") and "A2")

    def test_texts_that_are_nearly_names(self):
        for text in ("", "A", "1", "A0", "A01", "A00", "a1", "aB1", "A10000", "A99999", "AAA1", "A-1", "A+1", "+A1", "A1 ", " A1",
                     "A 1", "1A", "A1A", "$A$1", "A1:A1", "A1.", "A\u0661", "A1\n", "A" + "9" * 5000, "A\u00b2", "R1C1",
                     "A1_"):
            self.assertIs(caught(BadPlace, place_at, text).given, text, text)

    def test_values_of_any_kind(self):
        for value in WRONG_PLACES:
            self.assertIs(caught(BadPlace, place_name, value).given, value)
        for value in ODD_VALUES:
            if value != "A1":
                self.assertIs(caught(BadPlace, place_at, value).given, value)


class RectangleNames(unittest.TestCase):
    def test_there_and_back(self):
        names = {"A1:A1": (1, 1, 1, 1), "B2:C9": (2, 2, 9, 3), "A1:ZZ9999": (1, 1, 9999, 702), "ZZ9999:ZZ9999": (9999, 702) * 2,
                 "Z1:AA1": (1, 26, 1, 27)}
        for name, rectangle in names.items():
            self.assertEqual(rectangle_name(rectangle), name)
            self.assertEqual(rectangle_at(name), rectangle)
        for rectangle in SMALL_RECTANGLES:
            self.assertEqual(rectangle_at(text=rectangle_name(rectangle=rectangle)), rectangle)

    def test_texts_that_are_nearly_names(self):
        for text in ("", ":", "A1", "A1:", ":A1", "A1:A1:A1", "A1::A1", "B1:A1", "A2:A1", "B2:A9", "a1:b2", "A1:B02", "A01:B2",
                     "A1: B2", "A1 :B2", " A1:B2", "A1:B2 ", "A1;B2", "A1-B2", "A0:A1", "A1:A10000", "A1:AAA1", "$A$1:$B$2",
                     "1:2", "A:B", "A1:B2\n"):
            self.assertIs(caught(BadRectangle, rectangle_at, text).given, text, text)

    def test_values_of_any_kind(self):
        for value in WRONG_RECTANGLES:
            self.assertIs(caught(BadRectangle, rectangle_name, value).given, value)
        for value in ODD_VALUES:
            self.assertIs(caught(BadRectangle, rectangle_at, value).given, value)


class Rectangles(unittest.TestCase):
    def test_rectangle_of(self):
        places = list(itertools.product((1, 2, 5, 9999), (1, 3, 702)))
        for one, other in itertools.product(places, repeat=2):
            rows = sorted((one[0], other[0]))
            columns = sorted((one[1], other[1]))
            self.assertEqual(rectangle_of(one, other), (rows[0], columns[0], rows[1], columns[1]))
        self.assertEqual(rectangle_of(other=(1, 5), one=(3, 2)), (1, 2, 3, 5))

    def test_pairs_of_rectangles_against_sets_of_places(self):
        for one, other in itertools.product(SMALL_RECTANGLES, repeat=2):
            shared = set_of(one) & set_of(other)
            found = common(one, other)
            self.assertEqual(set_of(found) if found else set(), shared)
            around = hull(one, other)
            rows = [row for row, _ in set_of(one) | set_of(other)]
            columns = [column for _, column in set_of(one) | set_of(other)]
            self.assertEqual(around, (min(rows), min(columns), max(rows), max(columns)))
            parts = without(one, other)
            self.assertEqual(sorted(place for part in parts for place in set_of(part)), sorted(set_of(one) - shared))

    def test_common(self):
        self.assertEqual(common((1, 1, 3, 3), (1, 1, 3, 3)), (1, 1, 3, 3))
        self.assertEqual(common((1, 1, 3, 3), (3, 3, 5, 5)), (3, 3, 3, 3))
        self.assertIsNone(common((1, 1, 3, 3), (4, 1, 5, 3)))
        self.assertIsNone(common((1, 1, 3, 3), (1, 4, 3, 5)))
        self.assertIsNone(common((1, 1, 3, 3), (7, 7, 9, 9)))
        self.assertEqual(common(other=(2, 2, 2, 2), one=(1, 1, 9999, 702)), (2, 2, 2, 2))
        self.assertEqual(common((9999, 1, 9999, 702), (1, 702, 9999, 702)), (9999, 702, 9999, 702))

    def test_hull(self):
        self.assertEqual(hull((1, 1, 1, 1), (9999, 702, 9999, 702)), (1, 1, 9999, 702))
        self.assertEqual(hull(one=(2, 5, 3, 6), other=(4, 1, 4, 1)), (2, 1, 4, 6))
        self.assertEqual(hull((1, 1, 5, 5), (2, 2, 3, 3)), (1, 1, 5, 5))

    def test_without_tells_above_left_right_below(self):
        self.assertEqual(without((1, 1, 5, 5), (3, 3, 3, 3)), ((1, 1, 2, 5), (3, 1, 3, 2), (3, 4, 3, 5), (4, 1, 5, 5)))
        self.assertEqual(without((1, 1, 3, 3), (1, 1, 3, 3)), ())
        self.assertEqual(without((2, 2, 3, 3), (1, 1, 9, 9)), ())
        self.assertEqual(without((1, 1, 3, 3), (4, 1, 5, 3)), ((1, 1, 3, 3),))
        self.assertEqual(without((1, 1, 3, 3), (3, 3, 4, 4)), ((1, 1, 2, 3), (3, 1, 3, 2)))
        self.assertEqual(without((1, 1, 9999, 702), (1, 1, 9998, 702)), ((9999, 1, 9999, 702),))
        self.assertEqual(without((1, 1, 9999, 702), (1, 1, 9999, 701)), ((1, 702, 9999, 702),))
        self.assertEqual(without((1, 1, 9999, 702), (2, 2, 9999, 702)), ((1, 1, 1, 702), (2, 1, 9999, 1)))
        self.assertEqual(without(other=(2, 2, 2, 2), one=(2, 1, 2, 2)), ((2, 1, 2, 1),))

    def test_has_place(self):
        for rectangle in SMALL_RECTANGLES:
            for place in itertools.product(range(1, 6), repeat=2):
                self.assertIs(has_place(rectangle, place), place in set_of(rectangle))
        self.assertIs(has_place(place=(9999, 702), rectangle=(1, 1, 9999, 702)), True)

    def test_sizes(self):
        self.assertEqual(size_of((1, 1, 1, 1)), 1)
        self.assertEqual(size_of((2, 3, 4, 7)), 15)
        self.assertEqual(size_of(rectangle=(1, 1, 9999, 702)), 9999 * 702)

    def test_places_in_by_rows(self):
        self.assertEqual(list(places_in((2, 3, 3, 5))), [(2, 3), (2, 4), (2, 5), (3, 3), (3, 4), (3, 5)])
        self.assertEqual(list(places_in(rectangle=(9999, 702, 9999, 702))), [(9999, 702)])
        everything = places_in((1, 1, 9999, 702))
        self.assertEqual((next(everything), next(everything)), ((1, 1), (1, 2)))


class Refusals(unittest.TestCase):
    def test_one_rectangle(self):
        for value in WRONG_RECTANGLES:
            self.assertIs(caught(BadRectangle, size_of, value).given, value)
            self.assertIs(caught(BadRectangle, lambda given: list(places_in(given)), value).given, value)

    def test_two_rectangles_the_first_wrong_one_first(self):
        right = (1, 1, 2, 2)
        for call in (common, hull, without):
            for value in WRONG_RECTANGLES:
                self.assertIs(caught(BadRectangle, call, value, right).given, value)
                self.assertIs(caught(BadRectangle, call, right, value).given, value)
                self.assertIs(caught(BadRectangle, call, value, "other").given, value)

    def test_two_places_the_first_wrong_one_first(self):
        for value in WRONG_PLACES:
            self.assertIs(caught(BadPlace, rectangle_of, value, (1, 1)).given, value)
            self.assertIs(caught(BadPlace, rectangle_of, (1, 1), value).given, value)
            self.assertIs(caught(BadPlace, rectangle_of, value, "other").given, value)

    def test_a_rectangle_before_a_place(self):
        for value in WRONG_PLACES:
            self.assertIs(caught(BadPlace, has_place, (1, 1, 2, 2), value).given, value)
        for value in WRONG_RECTANGLES:
            self.assertIs(caught(BadRectangle, has_place, value, (1, 1)).given, value)
            self.assertIs(caught(BadRectangle, has_place, value, "no place").given, value)


class Examples(unittest.TestCase):
    def test_of_the_document(self):
        self.assertEqual((place_name((12, 28)), place_at("ZZ1"), rectangle_at("B2:C9")), ("AB12", (1, 702), (2, 2, 9, 3)))
        self.assertEqual(without((1, 1, 3, 3), (2, 2, 9, 2)), ((1, 1, 1, 3), (2, 1, 3, 1), (2, 3, 3, 3)))


if __name__ == "__main__":
    unittest.main()
