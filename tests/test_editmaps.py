"""[23] to [27] and gridfile/editmaps.py: edit maps."""

import random
import unittest

from gridfile.editmaps import EditMap
from gridfile.errors import BadEdit, BadMap, BadNumber
from support import ODD_VALUES, caught

NOT_NUMBERS = [value for value in ODD_VALUES if value != 1 or isinstance(value, bool)] + [-1, 10000, 1.5, "1"]
NOT_EDITS = [*ODD_VALUES, "insert", ("insert",), ("insert", 1), ("insert", 1, 1, 1), ["insert", 1, 1], ("add", 1, 1), (None, 1, 1),
             (["insert"], 1, 1), ("insert", 0, 1), ("insert", 1, 0), ("insert", 10000, 1), ("delete", 1, 10000), ("delete", True, 1),
             ("delete", 1, True), ("delete", 1.0, 1), ("delete", None, 1), ("Insert", 1, 1), ("all", ())]


class Rows:
    """What an edit map says, row by row, for the first rows: each is its pair of marks and, if it is old, its number."""

    def __init__(self, rows=None):
        self.rows = [(number, number, number) for number in range(1, 400)] if rows is None else rows

    def edited(self, word, at, many):
        rows = self.rows
        if word == "delete":
            return Rows(rows[:at - 1] + rows[at - 1 + many:])
        above = rows[at - 2][0] if at > 1 else 0
        return Rows(rows[:at - 1] + [(above, rows[at - 1][1], None)] * many + rows[at - 1:])


def many_edits(chance, many, most=12):
    return tuple((chance.choice(("insert", "delete")), chance.randint(1, most), chance.randint(1, 4)) for _ in range(many))


def done(edits):
    rows = Rows()
    for edit in edits:
        rows = rows.edited(*edit)
    return rows.rows


def applied(edit_map, rows, many):
    """What a map makes of the rows of another one, so many of them: the composition, row by row."""
    found = []
    for number in range(1, many + 1):
        old = edit_map.old_at(number)
        above, below = edit_map.marks_at(number)
        found.append(rows[old - 1] if old is not None else (rows[above - 1][0] if above else 0, rows[below - 1][1], None))
    return found


class Making(unittest.TestCase):
    def test_unchanged(self):
        self.assertEqual(EditMap.unchanged().pieces, (("kept", 1, None),))

    def test_inserting_and_deleting_at_the_borders_and_between(self):
        told = {(1, 1): (("new", 0, 1, 1), ("kept", 1, None)), (3, 2): (("kept", 1, 2), ("new", 2, 3, 2), ("kept", 3, None)),
                (9999, 9999): (("kept", 1, 9998), ("new", 9998, 9999, 9999), ("kept", 9999, None)), (2, 1):
                (("kept", 1, 1), ("new", 1, 2, 1), ("kept", 2, None))}
        for (at, many), pieces in told.items():
            self.assertEqual(EditMap.inserting(at, many).pieces, pieces)
            self.assertEqual(EditMap.inserting(at=at, many=many).pieces, pieces)
            self.assertEqual(EditMap.of((("insert", at, many),)).pieces, pieces)
        told = {(1, 1): (("kept", 2, None),), (3, 2): (("kept", 1, 2), ("kept", 5, None)), (9999, 9999):
                (("kept", 1, 9998), ("kept", 19998, None)), (2, 1): (("kept", 1, 1), ("kept", 3, None))}
        for (at, many), pieces in told.items():
            self.assertEqual(EditMap.deleting(at, many).pieces, pieces)
            self.assertEqual(EditMap.deleting(at=at, many=many).pieces, pieces)
            self.assertEqual(EditMap.of(edits=(("delete", at, many),)).pieces, pieces)

    def test_wrong_numbers(self):
        for call in (EditMap.inserting, EditMap.deleting):
            for value in NOT_NUMBERS:
                self.assertEqual(caught(BadNumber, call, value, None).given, value)
                self.assertEqual(caught(BadNumber, call, 1, value).given, value)

    def test_of_no_edits(self):
        self.assertEqual(EditMap.of(()).pieces, EditMap.unchanged().pieces)
        for value in ODD_VALUES:
            if not isinstance(value, tuple):
                self.assertEqual(caught(BadEdit, EditMap.of, value).given, value)
        for value in NOT_EDITS:
            self.assertEqual(caught(BadEdit, EditMap.of, (("insert", 1, 1), value, 5)).given, value)
        self.assertEqual(caught(BadEdit, EditMap.of, [("insert", 1, 1)]).given, [("insert", 1, 1)])

    def test_pieces_are_joined(self):
        told = {(("insert", 3, 2), ("insert", 4, 3)): (("kept", 1, 2), ("new", 2, 3, 5), ("kept", 3, None)),
                (("insert", 3, 2), ("insert", 3, 1)): (("kept", 1, 2), ("new", 2, 3, 3), ("kept", 3, None)),
                (("insert", 3, 2), ("insert", 5, 1)): (("kept", 1, 2), ("new", 2, 3, 3), ("kept", 3, None)),
                (("insert", 3, 2), ("delete", 3, 2)): (("kept", 1, None),), (("insert", 1, 2), ("delete", 1, 2)): (("kept", 1, None),),
                (("delete", 3, 2), ("delete", 2, 2)): (("kept", 1, 1), ("kept", 6, None)),
                (("delete", 3, 1), ("insert", 3, 1)): (("kept", 1, 2), ("new", 2, 4, 1), ("kept", 4, None)),
                (("insert", 3, 1), ("delete", 4, 1)): (("kept", 1, 2), ("new", 2, 3, 1), ("kept", 4, None)),
                (("insert", 3, 1), ("delete", 4, 1), ("insert", 4, 1)):
                (("kept", 1, 2), ("new", 2, 3, 1), ("new", 2, 4, 1), ("kept", 4, None)),
                (("delete", 1, 3), ("insert", 1, 1)): (("new", 0, 4, 1), ("kept", 4, None))}
        for edits, pieces in told.items():
            self.assertEqual(EditMap.of(edits).pieces, pieces)

    def test_many_edits(self):
        chance = random.Random(11)
        for _ in range(300):
            edits = many_edits(chance, chance.randint(1, 8))
            rows = done(edits)
            edit_map = EditMap.of(edits)
            kept = {old: at + 1 for at, (_, _, old) in enumerate(rows) if old is not None}
            for number in range(1, 60):
                self.assertEqual(edit_map.marks_at(number), rows[number - 1][:2])
                self.assertEqual(edit_map.old_at(number), rows[number - 1][2])
                self.assertEqual(edit_map.new_of(number), kept.get(number))
            for before, piece in zip(edit_map.pieces, edit_map.pieces[1:]):
                if before[0] == "kept" == piece[0]:
                    self.assertLess(before[1] + before[2], piece[1])
                self.assertNotEqual(before[:-1], piece[:-1])
            self.assertEqual(edit_map.pieces[-1][0::2], ("kept", None))
        longest = many_edits(chance, 400, 9999)
        self.assertGreater(len(EditMap.of(longest).pieces), 300)


class Composing(unittest.TestCase):
    def test_then(self):
        one, two = EditMap.inserting(3, 2), EditMap.deleting(2, 2)
        self.assertEqual(one.then(two).pieces, (("kept", 1, 1), ("new", 2, 3, 1), ("kept", 3, None)))
        self.assertEqual(two.then(other=one).pieces, (("kept", 1, 1), ("kept", 4, 1), ("new", 4, 5, 2), ("kept", 5, None)))
        self.assertEqual(one.pieces, (("kept", 1, 2), ("new", 2, 3, 2), ("kept", 3, None)))
        self.assertEqual(one.then(EditMap.unchanged()).pieces, one.pieces)
        self.assertEqual(EditMap.unchanged().then(one).pieces, one.pieces)

    def test_what_it_does_is_what_both_do(self):
        chance = random.Random(12)
        for _ in range(200):
            parts = [many_edits(chance, chance.randint(0, 4)) for _ in range(3)]
            one, two, three = [EditMap.of(edits) for edits in parts]
            both = one.then(two)
            self.assertEqual(both.pieces, EditMap.of(parts[0] + parts[1]).pieces)
            self.assertEqual(applied(both, done(()), 60), applied(two, applied(one, done(()), 150), 60))
            self.assertEqual(both.then(three).pieces, one.then(two.then(three)).pieces)

    def test_spans_fronts_and_rows_compose(self):
        chance = random.Random(13)
        for _ in range(200):
            one, two = [EditMap.of(many_edits(chance, chance.randint(0, 4))) for _ in range(2)]
            both = one.then(two)
            for first in range(1, 20):
                number = one.new_of(first)
                self.assertEqual(both.new_of(first), None if number is None else two.new_of(number))
                self.assertEqual(both.front_of(first), two.front_of(one.front_of(first)))
                for last in range(first, 20):
                    span = one.span_of(first, last)
                    self.assertEqual(both.span_of(first, last), None if span is None else two.span_of(*span))

    def test_inserting_and_then_deleting_is_no_change(self):
        for at, many in ((1, 1), (3, 2), (9999, 9999)):
            self.assertTrue(EditMap.inserting(at, many).then(EditMap.deleting(at, many)).is_same(EditMap.unchanged()))

    def test_insertions_in_both_orders(self):
        for a in range(1, 5):
            for b in range(a, 7):
                for many, more in ((1, 1), (3, 2)):
                    one = EditMap.of((("insert", a, many), ("insert", b + many, more)))
                    self.assertEqual(one.pieces, EditMap.of((("insert", b, more), ("insert", a, many))).pieces)

    def test_the_example(self):
        one = EditMap.of((("insert", 3, 1), ("delete", 2, 1), ("delete", 3, 1)))
        two = EditMap.of((("delete", 2, 2), ("insert", 2, 1)))
        self.assertEqual((one.pieces, two.pieces[1]), ((("kept", 1, 1), ("new", 2, 3, 1), ("kept", 4, None)), ("new", 1, 4, 1)))
        self.assertEqual((one.span_of(2, 3), two.span_of(2, 3), one.new_of(5), one.front_of(3), one.gone()),
                         ((2, 2), None, 4, 2, ((2, 3),)))
        self.assertIs(one.is_same(two), False)

    def test_maps_with_equal_pieces_only_do_the_same(self):
        chance = random.Random(14)
        known = {}
        for _ in range(400):
            edit_map = EditMap.of(many_edits(chance, chance.randint(0, 3), 4))
            does = (tuple(edit_map.new_of(number) for number in range(1, 30)), tuple(edit_map.front_of(n) for n in range(30)),
                    tuple(edit_map.span_of(a, b) for a in range(1, 16) for b in range(a, 16)))
            self.assertEqual(known.setdefault(does, edit_map.pieces), edit_map.pieces)
        self.assertGreater(len(known), 50)

    def test_is_same(self):
        one = EditMap.inserting(3, 1)
        self.assertIs(one.is_same(EditMap.of((("insert", 3, 1),))), True)
        self.assertIs(one.is_same(other=EditMap.inserting(3, 2)), False)
        for value in [*ODD_VALUES, one.pieces]:
            self.assertIs(one.is_same(value), False)
            self.assertEqual(caught(BadMap, one.then, value).given, value)


class Back(unittest.TestCase):
    def test_it_brings_deleted_rows_back_and_deletes_new_ones(self):
        for at, many in ((1, 1), (3, 2), (9999, 5)):
            self.assertEqual(EditMap.inserting(at, many).back().pieces, EditMap.deleting(at, many).pieces)
            self.assertEqual(EditMap.deleting(at, many).back().pieces, EditMap.inserting(at, many).pieces)
        one = EditMap.of((("insert", 3, 1), ("delete", 2, 1), ("delete", 3, 1)))
        self.assertEqual(one.back().pieces, (("kept", 1, 1), ("new", 1, 3, 2), ("kept", 3, None)))
        self.assertEqual(EditMap.unchanged().back().pieces, (("kept", 1, None),))

    def test_it_keeps_the_same_rows(self):
        chance = random.Random(15)
        for _ in range(300):
            edit_map = EditMap.of(many_edits(chance, chance.randint(0, 7)))
            back = edit_map.back()
            kept = [number for number in range(1, 80) if edit_map.new_of(number) is not None]
            before = 0
            for number in range(1, 60):
                new = edit_map.new_of(number)
                self.assertEqual(back.old_at(number), new)
                if new is None:
                    behind = edit_map.new_of(min(row for row in kept if row > number))
                    self.assertEqual(back.marks_at(number), (before, behind))
                else:
                    self.assertEqual(back.new_of(new), number)
                    before = new
                if edit_map.old_at(number) is None:
                    self.assertIsNone(back.new_of(number))
            self.assertEqual(back.gone(), edit_map.made())
            self.assertEqual(back.made(), edit_map.gone())
            twice = back.back()
            self.assertEqual([twice.new_of(number) for number in range(1, 60)], [edit_map.new_of(number) for number in range(1, 60)])


class Asking(unittest.TestCase):
    def test_rows_spans_and_fronts_by_their_marks(self):
        chance = random.Random(16)
        for _ in range(200):
            edits = many_edits(chance, chance.randint(0, 6))
            edit_map, rows = EditMap.of(edits), done(edits)
            for first in range(1, 16):
                for last in range(first, 16):
                    there = [at + 1 for at, row in enumerate(rows) if first <= row[0] and row[1] <= last]
                    self.assertEqual(edit_map.span_of(first, last), (there[0], there[-1]) if there else None)
                    self.assertEqual(there, list(range(there[0], there[-1] + 1)) if there else [])
            for count in range(16):
                self.assertEqual(edit_map.front_of(count), len([row for row in rows if row[1] <= count]))

    def test_at_the_end_of_the_grid(self):
        inserting, deleting = EditMap.inserting(5, 9999), EditMap.deleting(5, 9999)
        self.assertEqual((inserting.new_of(4), inserting.new_of(5), inserting.new_of(9999)), (4, 10004, 19998))
        self.assertEqual((inserting.old_at(9999), inserting.marks_at(9999)), (None, (4, 5)))
        self.assertEqual((inserting.span_of(1, 9999), inserting.front_of(9999), inserting.front_of(4)), ((1, 19998), 19998, 4))
        self.assertEqual((deleting.new_of(5), deleting.new_of(9999), deleting.old_at(5)), (None, None, 10004))
        self.assertEqual((deleting.marks_at(9999), deleting.span_of(5, 9999), deleting.span_of(1, 9999)), ((19998, 19998), None, (1, 4)))
        self.assertEqual((deleting.front_of(9999), deleting.gone(), inserting.made()), (4, ((5, 10003),), ((5, 10003),)))

    def test_gone_and_made(self):
        self.assertEqual((EditMap.unchanged().gone(), EditMap.unchanged().made()), ((), ()))
        edit_map = EditMap.of((("delete", 1, 2), ("delete", 3, 1), ("insert", 2, 3), ("insert", 9, 1)))
        self.assertEqual((edit_map.gone(), edit_map.made()), (((1, 2), (5, 5)), ((2, 4), (9, 9))))
        self.assertEqual(EditMap.of((("insert", 3, 1), ("delete", 4, 1), ("insert", 4, 1))).made(), ((3, 4),))

    def test_names_of_arguments(self):
        edit_map = EditMap.inserting(3, 2)
        self.assertEqual((edit_map.new_of(number=3), edit_map.old_at(number=5), edit_map.marks_at(number=4),
                          edit_map.span_of(first=2, last=3), edit_map.front_of(count=3)), (5, 3, (2, 3), (2, 5), 5))

    def test_wrong_numbers(self):
        edit_map = EditMap.inserting(3, 2)
        for value in NOT_NUMBERS:
            for call in (edit_map.new_of, edit_map.old_at, edit_map.marks_at):
                self.assertEqual(caught(BadNumber, call, value).given, value)
            self.assertEqual(caught(BadNumber, edit_map.span_of, value, "x").given, value)
            self.assertEqual(caught(BadNumber, edit_map.span_of, 1, value).given, value)
            if value != 0 or isinstance(value, bool):
                self.assertEqual(caught(BadNumber, edit_map.front_of, value).given, value)
        self.assertEqual(caught(BadNumber, edit_map.span_of, 3, 2).given, 2)
        self.assertEqual(edit_map.front_of(0), 0)


if __name__ == "__main__":
    unittest.main()
