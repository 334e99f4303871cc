"""[36] to [39] and gridfile/runs.py: runs of settings, joins, crossings, greatest matchings, formula lines."""

import itertools
import random
import time
import unittest

from gridfile.errors import BadCells, BadColumns, BadPaper
from gridfile.runs import (check_matching, crosses, fewest_lines, formula_lines, given_up, greatest_matching, joins_of,
                           line_cells, setting_runs, settings_of)
from gridfile.values import PLAIN
from support import ODD_VALUES, caught

BOLD = ("", ("Plain", 10, True, False), None, (0, 0, 0, 0), ("general", False))
LOST, ONE = ("lost",), ("number", 1)
RC = ("rcell", None, (0, 0, False, False))
NO_ROWS = [value for value in ODD_VALUES if not isinstance(value, (list, tuple))]
BAD_CELLS = [*ODD_VALUES, ((1, 1),), ((1, 1), None), ((1, 1), ("cell", None, (1, 1, False, False))), ((0, 1), LOST), ((1, 703), LOST),
             ([1, 1], LOST), [(9, 9), LOST], ((9, 9), LOST, LOST), ((9, 9), ["lost"])]


def field(*rows, forms=None):
    """Formula cells by rows of text: a space is no cell, each other character a form."""
    forms = forms or {sign: ("text", sign) for row in rows for sign in row}
    return [((at + 1, by + 1), forms[sign]) for at, row in enumerate(rows) for by, sign in enumerate(row) if sign != " "]


def rectangle(height, width, top=1, left=1):
    return [((row, column), RC) for row in range(top, top + height) for column in range(left, left + width)]


def is_down(join):
    return join[0][1] == join[1][1]


def least_sets(cells):
    """The least sets of joins that meet all crossings, found by trying."""
    joins = joins_of(cells)
    crossings = [(one, other) for one, other in itertools.combinations(joins, 2) if crosses(one, other)]
    for many in range(len(joins) + 1):
        found = [chosen for chosen in itertools.combinations(joins, many)
                 if all(one in chosen or other in chosen for one, other in crossings)]
        if found:
            return found
    return None


def lines_without(cells, lost):
    """The lines that keep all joins but these, by following the joins that are kept."""
    following = {first: second for first, second in joins_of(cells) if (first, second) not in lost}
    lines = []
    for place, form in cells:
        if place not in following.values():
            last = place
            while last in following:
                last = following[last]
            lines.append((place, last, form))
    return lines


class Runs(unittest.TestCase):
    def test_as_long_as_possible(self):
        settings = [(1, 20, False, PLAIN), (2, 20, False, PLAIN), (4, 20, False, PLAIN), (5, 21, False, PLAIN), (6, None, True, PLAIN),
                    (7, None, True, BOLD), (8, None, True, BOLD), (9, None, False, BOLD), (9998, 0, False, PLAIN), (9999, 0, False, PLAIN)]
        runs = [(1, 2, 20, False, PLAIN), (4, 4, 20, False, PLAIN), (5, 5, 21, False, PLAIN), (6, 6, None, True, PLAIN),
                (7, 8, None, True, BOLD), (9, 9, None, False, BOLD), (9998, 9999, 0, False, PLAIN)]
        for given in (settings, tuple(settings)):
            self.assertEqual(setting_runs(given), runs)
        self.assertEqual(setting_runs(settings=settings), runs)
        self.assertEqual(settings_of(runs=runs), tuple(settings))
        self.assertEqual((setting_runs([]), setting_runs(()), settings_of([]), settings_of(())), ([], [], (), ()))

    def test_one_and_none_are_no_bools_and_no_sizes(self):
        for setting in ((2, True, False, PLAIN), (2, 1, 1, PLAIN), (2, 1, 0, PLAIN), (2, 1, None, PLAIN)):
            self.assertEqual(caught(BadColumns, setting_runs, [(1, 1, True, PLAIN), setting]).at, 1)
            self.assertEqual(caught(BadColumns, settings_of, [(1, 1, 1, True, PLAIN), (setting[0], *setting)]).at, 1)

    def test_any_division_leads_back(self):
        chance = random.Random(20)
        for _ in range(100):
            numbers = sorted(chance.sample(range(1, 30), 15))
            settings = tuple((number, *chance.choice(((5, False, PLAIN), (5, True, PLAIN), (None, False, BOLD)))) for number in numbers)
            runs = setting_runs(settings)
            self.assertEqual(settings_of(runs), settings)
            self.assertEqual(settings_of([(number, number, *rest) for number, *rest in settings]), settings)
            for before, run in zip(runs, runs[1:]):
                self.assertFalse(before[1] + 1 == run[0] and before[2:] == run[2:])
        self.assertEqual(len(settings_of([(1, 9999, 5, False, PLAIN)])), 9999)
        self.assertEqual(setting_runs(settings_of([(1, 9, 5, False, PLAIN), (10, 9999, 5, False, PLAIN)])), [(1, 9999, 5, False, PLAIN)])

    def test_wrong_settings(self):
        right = (1, 5, False, PLAIN)
        for value in [*ODD_VALUES, (2, None, False, PLAIN), (1, 5, False, PLAIN), (0, 5, False, PLAIN), (10000, 5, False, PLAIN),
                      (2, -1, False, PLAIN), (2, 1001, False, PLAIN), (2, 5, False, None), (2, 5, False), [2, 5, False, PLAIN],
                      (2, 5, False, PLAIN, 5), (True, 5, False, PLAIN)]:
            self.assertEqual(caught(BadColumns, setting_runs, [right, value, None]).at, 1)
        for value in NO_ROWS:
            self.assertIsNone(caught(BadColumns, setting_runs, value).at)
            self.assertIsNone(caught(BadColumns, settings_of, value).at)

    def test_wrong_runs(self):
        right = (1, 3, 5, False, PLAIN)
        for value in [*ODD_VALUES, (4, 5, None, False, PLAIN), (3, 5, 5, False, PLAIN), (1, 3, 5, False, PLAIN), (5, 4, 5, False, PLAIN),
                      (4, 10000, 5, False, PLAIN), (4, 4, 5, False), [4, 4, 5, False, PLAIN], (4, True, 5, False, PLAIN),
                      (4, "5", 5, False, PLAIN), ("4", 5, 5, False, PLAIN), (4, None, 5, False, PLAIN), (4, 5, 1001, False, PLAIN)]:
            self.assertEqual(caught(BadColumns, settings_of, (right, value, None)).at, 1)
        self.assertEqual(caught(BadColumns, settings_of, [(0, 1, 5, False, PLAIN)]).at, 0)
        self.assertEqual(settings_of([right, (4, 4, 5, False, PLAIN)])[-1], (4, 5, False, PLAIN))


class Joins(unittest.TestCase):
    def test_equal_forms_side_by_side_and_above_each_other(self):
        cells = field("aab", "a a", "bba")
        self.assertEqual(joins_of(cells), [((1, 1), (1, 2)), ((1, 1), (2, 1)), ((2, 3), (3, 3)), ((3, 1), (3, 2))])
        self.assertEqual(joins_of(cells=tuple(cells)), joins_of(cells))
        self.assertEqual((joins_of([]), joins_of([((9999, 702), LOST)])), ([], []))
        self.assertEqual(joins_of([((1, 702), LOST), ((2, 1), LOST)]), [])

    def test_truths_and_numbers_are_other_forms(self):
        self.assertEqual(joins_of([((1, 1), ONE), ((1, 2), ("truth", True)), ((1, 3), ("text", "1"))]), [])

    def test_crossings(self):
        down, along = ((2, 2), (3, 2)), ((2, 2), (2, 3))
        told = {(down, along): True, (along, down): True, (down, down): False, (along, along): False, (down, ((2, 1), (2, 2))): True,
                (down, ((3, 1), (3, 2))): True, (down, ((3, 2), (3, 3))): True, (down, ((2, 3), (2, 4))): False, (down, ((3, 2), (4, 2))): False,
                (down, ((4, 2), (4, 3))): False, (along, ((2, 3), (2, 4))): False, (along, ((1, 3), (2, 3))): True}
        for (one, other), answer in told.items():
            self.assertIs(crosses(one, other), answer)
            self.assertIs(crosses(one=one, other=other), answer)

    def test_what_is_no_join(self):
        join = ((2, 2), (3, 2))
        for value in [*ODD_VALUES, ((3, 2), (2, 2)), ((2, 3), (2, 2)), ((2, 2), (2, 2)), ((2, 2), (3, 3)), ((2, 2), (4, 2)), ((9999, 1), (10000, 1)),
                      ((1, 702), (1, 703)), ((0, 1), (1, 1)), [(2, 2), (3, 2)], ((2, 2), [3, 2]), ((2, 2),), ((2, 2), (3, 2), (4, 2))]:
            self.assertIsNone(caught(BadCells, crosses, value, join).at)
            self.assertIsNone(caught(BadCells, crosses, join, value).at)

    def test_wrong_cells(self):
        for call in (joins_of, greatest_matching, given_up, fewest_lines, formula_lines, lambda cells: check_matching(cells, None)):
            for value in BAD_CELLS:
                self.assertEqual(caught(BadCells, call, [((1, 2), LOST), value, None]).at, 1)
            for place in ((1, 2), (1, 1)):
                self.assertEqual(caught(BadCells, call, [((1, 2), LOST), (place, LOST)]).at, 1)
            for value in NO_ROWS:
                self.assertIsNone(caught(BadCells, call, value).at)


class Lines(unittest.TestCase):
    def check(self, cells):
        """That all functions of formula lines agree; the given-up joins are returned."""
        lost, lines, matching = given_up(cells), formula_lines(cells), greatest_matching(cells)
        joins = joins_of(cells)
        self.assertEqual(lost, sorted(lost))
        self.assertEqual(len(lost), len(matching))
        self.assertEqual(matching, tuple(sorted(matching)))
        self.assertEqual(len({join for pair in matching for join in pair}), 2 * len(matching))
        for down, along in matching:
            self.assertTrue(is_down(down) and not is_down(along) and crosses(down, along))
        self.assertTrue(set(lost) <= set(joins))
        self.assertEqual(lines, lines_without(cells, lost))
        self.assertEqual(lines, sorted(lines, key=lambda line: line[0]))
        self.assertEqual(len(lines), len(cells) - len(joins) + len(matching))
        self.assertEqual(fewest_lines(cells), len(lines))
        self.assertEqual(line_cells(lines), list(cells))
        self.assertEqual(check_matching(cells, matching), len(lines))
        return lost

    def test_the_example(self):
        cells = [((1, 1), LOST), ((2, 1), LOST), ((2, 2), LOST), ((2, 3), LOST)]
        self.assertEqual(formula_lines(cells), [((1, 1), (2, 1), LOST), ((2, 2), (2, 3), LOST)])
        self.assertEqual(self.check(cells), [((2, 1), (2, 2))])
        self.assertEqual((formula_lines(cells=cells), given_up(cells=cells), fewest_lines(cells=cells)),
                         (formula_lines(cells), given_up(cells), 2))
        self.assertEqual(greatest_matching(cells=cells), ((((1, 1), (2, 1)), ((2, 1), (2, 2))),))

    def test_no_cells_and_single_ones(self):
        self.assertEqual((formula_lines([]), given_up(()), fewest_lines([]), greatest_matching(()), line_cells([])), ([], [], 0, (), []))
        self.assertEqual(formula_lines([((5, 5), LOST)]), [((5, 5), (5, 5), LOST)])
        self.assertEqual(formula_lines(field("ab", "ba")), [((row, column), (row, column), ("text", "ab"[(row + column) % 2]))
                                                            for row in (1, 2) for column in (1, 2)])

    def test_rectangles(self):
        for height, width in itertools.product(range(1, 7), repeat=2):
            cells = rectangle(height, width, 3, 4)
            self.check(cells)
            if width <= height:
                lines = [((3, 3 + column), (2 + height, 3 + column), RC) for column in range(1, width + 1)]
            else:
                lines = [((2 + row, 4), (2 + row, 3 + width), RC) for row in range(1, height + 1)]
            self.assertEqual(formula_lines(cells), lines)

    def test_rings_around_a_hole(self):
        self.assertEqual(formula_lines(field("aaa", "a a", "aaa")), [((1, 1), (3, 1), ("text", "a")), ((1, 2), (1, 2), ("text", "a")),
                                                                     ((1, 3), (3, 3), ("text", "a")), ((3, 2), (3, 2), ("text", "a"))])
        self.assertEqual(self.check(field("aaaa", "a  a", "aaaa")), [((1, 1), (1, 2)), ((1, 3), (1, 4)), ((3, 1), (3, 2)), ((3, 3), (3, 4))])

    def test_fields_that_do_not_touch_and_several_forms(self):
        cells = field("aa  bb", "aa  b ", "      ", "ababab", "aab   ")
        self.check(cells)
        self.assertEqual(fewest_lines(cells), 2 + 2 + 8)

    def test_small_fields_by_trying(self):
        chance = random.Random(21)
        for _ in range(250):
            height, width = chance.choice(((2, 2), (2, 3), (3, 2), (3, 3), (2, 4), (4, 2)))
            signs = chance.choice(("a", "aaa ", "aab", "aaab "))
            cells = field(*["".join(chance.choice(signs) for _ in range(width)) for _ in range(height)])
            sets = least_sets(cells)
            fewest = min(len([join for join in found if is_down(join)]) for found in sets)
            best = [list(found) for found in sets if len([join for join in found if is_down(join)]) == fewest]
            self.assertEqual(best, [self.check(cells)])

    def test_larger_random_fields_agree_with_themselves(self):
        chance = random.Random(22)
        for many, signs in ((12, "aaa "), (20, "aab "), (25, "a "), (30, "aaaaaaab")):
            cells = field(*["".join(chance.choice(signs) for _ in range(many)) for _ in range(many)])
            self.check(cells)

    def test_many_cells_in_a_short_time(self):
        chance = random.Random(23)
        start = time.time()
        for cells in (rectangle(2000, 1), rectangle(1, 702), rectangle(44, 45), rectangle(60, 60),
                      field(*["".join(chance.choice("aaaa ") for _ in range(60)) for _ in range(60)]),
                      field(*["a" * 60 if row % 2 else "a " * 30 for row in range(60)]),
                      field(*[" " * at + "a" * (60 - at) for at in range(60)])):
            lines = formula_lines(cells)
            self.assertEqual(len(lines), fewest_lines(cells))
        self.assertLess(time.time() - start, 20)


class Passing(unittest.TestCase):
    def test_lists_that_are_passed_are_not_changed_and_new_ones_are_returned(self):
        cells = rectangle(3, 3)
        for call in (joins_of, given_up, formula_lines, lambda given: line_cells(formula_lines(given)),
                     lambda given: setting_runs([(row, 5, False, PLAIN) for row in range(1, 9)])):
            before = call(cells)
            call(cells).append(None)
            self.assertEqual(call(cells), before)
        for call in (joins_of, given_up, formula_lines, greatest_matching, fewest_lines):
            call(cells)
            self.assertEqual(cells, rectangle(3, 3))


class Reading(unittest.TestCase):
    def test_lines_in_any_division_and_order(self):
        cells = rectangle(3, 2)
        for lines in ([((1, 2), (3, 2), RC), ((1, 1), (3, 1), RC)], [((3, 1), (3, 2), RC), ((1, 1), (2, 1), RC), ((1, 2), (2, 2), RC)],
                      [(place, place, RC) for place, _ in cells[::-1]]):
            self.assertEqual(line_cells(lines), cells)
            self.assertEqual(line_cells(lines=tuple(lines)), cells)
        self.assertEqual(line_cells([((1, 1), (9999, 1), LOST)])[-1], ((9999, 1), LOST))
        self.assertEqual(len(line_cells([((1, 1), (1, 702), LOST)])), 702)

    def test_wrong_lines(self):
        right = ((1, 1), (3, 1), RC)
        for value in [*ODD_VALUES, ((1, 2), (2, 3), RC), ((2, 2), (1, 2), RC), ((1, 3), (1, 2), RC), ((1, 2), (1, 2)), ((0, 2), (1, 2), RC),
                      ((1, 2), (1, 703), RC), ((1, 2), (1, 2), ("cell", None, (1, 1, False, False))), [(1, 2), (1, 2), RC], ((1, 2), (1, 2), RC, RC),
                      right, ((3, 1), (3, 1), RC), ((2, 1), (2, 5), LOST), ((3, 1), (5, 1), RC), ((1, 2), (1, 2), None)]:
            self.assertEqual(caught(BadCells, line_cells, [right, value, None]).at, 1)
        for value in NO_ROWS:
            self.assertIsNone(caught(BadCells, line_cells, value).at)


class Papers(unittest.TestCase):
    def test_a_matching_counts(self):
        cells = rectangle(3, 3)
        matching = greatest_matching(cells)
        for many in range(len(matching) + 1):
            self.assertEqual(check_matching(cells, matching[:many]), 9 - 12 + many)
        self.assertEqual(check_matching(cells=cells, pairs=matching[::-1]), 3)
        self.assertEqual(check_matching([], ()), 0)

    def test_wrong_pairs(self):
        cells = rectangle(3, 3)
        down, along, other = ((1, 1), (2, 1)), ((1, 1), (1, 2)), ((2, 1), (2, 2))
        first = (((2, 2), (3, 2)), ((2, 2), (2, 3)))
        check_matching(cells, (first, (down, along)))
        for value in [*ODD_VALUES, (along, down), (down, down), (down, ((1, 2), (1, 3))), (down, along, along), (down,), [down, along],
                      (((3, 1), (4, 1)), ((3, 1), (3, 2))), (((1, 3), (2, 3)), ((1, 3), (1, 4))), first, (first[0], other),
                      (((1, 2), (2, 2)), first[1]), (((2, 1), (1, 1)), along), (down, ((1, 2), (1, 1))), (list(down), along), (down, None)]:
            self.assertEqual(caught(BadPaper, check_matching, cells, (first, value, None)).at, 1)
        for value in [value for value in ODD_VALUES if not isinstance(value, tuple)]:
            self.assertIsNone(caught(BadPaper, check_matching, cells, value).at)
        self.assertEqual(caught(BadPaper, check_matching, field("ab", "aa"), ((down, along),)).at, 0)


if __name__ == "__main__":
    unittest.main()
