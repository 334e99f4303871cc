"""[18] to [22] and gridfile/forms.py: relative forms, their texts, rooms, filling."""

import random
import unittest

from gridfile.errors import BadForm, BadFormula, BadPlace, BadTree, NoPart
from gridfile.forms import absolute, fill, lost_by, print_form, read_form, relative, room, room_of, same_form
from gridfile.formulas import print_formula, read_formula
from gridfile.trees import is_form, is_tree, lost_in, references, weight
from support import ODD_VALUES, caught, random_tree

LOST = ("lost",)
ONE = ("number", 1)
RC = ("rcell", None, (0, 0, False, False))
NOT_PLACES = [*[value for value in ODD_VALUES if value != (1, 1)], (0, 1), (1, 0), (10000, 1), (1, 703), [1, 1], (True, 1)]
# Forms, with their texts and rooms.
FORMS = {
    "=RC": (RC, (1, 1, 9999, 702)), "=1": (ONE, (1, 1, 9999, 702)), "=#REF!": (LOST, (1, 1, 9999, 702)),
    "=R[1]C": (("rcell", None, (1, 0, False, False)), (1, 1, 9998, 702)),
    "=R[-1]C": (("rcell", None, (-1, 0, False, False)), (2, 1, 9999, 702)),
    "=RC[1]": (("rcell", None, (0, 1, False, False)), (1, 1, 9999, 701)),
    "=RC[-701]": (("rcell", None, (0, -701, False, False)), (1, 702, 9999, 702)),
    "=RC[701]": (("rcell", None, (0, 701, False, False)), (1, 1, 9999, 1)),
    "=R[9998]C": (("rcell", None, (9998, 0, False, False)), (1, 1, 1, 702)),
    "=R[-9998]C[701]": (("rcell", None, (-9998, 701, False, False)), (9999, 1, 9999, 1)),
    "=R1C1": (("rcell", None, (1, 1, True, True)), (1, 1, 9999, 702)),
    "=R9999C702": (("rcell", None, (9999, 702, True, True)), (1, 1, 9999, 702)),
    "=R2C": (("rcell", None, (2, 0, True, False)), (1, 1, 9999, 702)),
    "=R2C[2]": (("rcell", None, (2, 2, True, False)), (1, 1, 9999, 700)),
    "=RC3": (("rcell", None, (0, 3, False, True)), (1, 1, 9999, 702)),
    "=R[-2]C3": (("rcell", None, (-2, 3, False, True)), (3, 1, 9999, 702)),
    "=R[-2]C[1]:R[3]C[-4]": (("rrange", None, (-2, 1, False, False), (3, -4, False, False)), (3, 5, 9996, 701)),
    "=R[9998]C:R[-9998]C": (("rrange", None, (9998, 0, False, False), (-9998, 0, False, False)), None),
    "=R[-9998]C+R[9998]C": (("op", "+", ("rcell", None, (-9998, 0, False, False)), ("rcell", None, (9998, 0, False, False))),
                            None),
    "=R[-4999]C+R[4999]C": (("op", "+", ("rcell", None, (-4999, 0, False, False)), ("rcell", None, (4999, 0, False, False))),
                            (5000, 1, 5000, 702)),
    "=R[-5000]C[-350]+R[4999]C[351]": (("op", "+", ("rcell", None, (-5000, -350, False, False)),
                                        ("rcell", None, (4999, 351, False, False))), None),
    "=R[-4999]C[-350]:R[4999]C[351]": (("rrange", None, (-4999, -350, False, False), (4999, 351, False, False)),
                                       (5000, 351, 5000, 351)),
    "=Data!RC:R1C1": (("rrange", "Data", (0, 0, False, False), (1, 1, True, True)), (1, 1, 9999, 702)),
    "='R'!RC": (("rcell", "R", (0, 0, False, False)), (1, 1, 9999, 702)),
    "=RC(RC,rate)": (("call", "RC", (RC, ("name", "rate"))), (1, 1, 9999, 702)),
    "=R1C1(R1C1)": (("call", "R1C1", (("rcell", None, (1, 1, True, True)),)), (1, 1, 9999, 702)),
    "=-(RC^2)": (("minus", ("op", "^", RC, ("number", 2))), (1, 1, 9999, 702)),
    "=RCx&RC_&R_": (("op", "&", ("op", "&", ("name", "RCx"), ("name", "RC_")), ("name", "R_")), (1, 1, 9999, 702)),
}
# Texts that are no forms, and their places.
WRONG = {
    "": 0, "RC": 0, "=": 1, "=R": 1, "=C": 1, "=R1": 1, "=C1": 1, "=R[1]": 1, "=C[1]": 1, "=A1": 1, "=$A1": 1, "=A$1": 2, "=rc": 1, "=Rc": 1,
    "=R[0]C": 1, "=RC[0]": 1, "=R[-0]C": 1, "=R0C": 1, "=RC0": 1, "=R01C": 1, "=RC01": 1, "=R[01]C": 1, "=RC[-01]": 1, "=R00C00": 1,
    "=R[9999]C": 1, "=R[-9999]C": 1, "=RC[702]": 1, "=RC[-702]": 1, "=R10000C": 1, "=RC703": 1, "=R[99999]C": 1, "=R" + "9" * 900 + "C": 1,
    "=1+R[0]C": 3, "=R[1C": 1, "=R[]C": 1, "=R[-]C": 1, "=R[+1]C": 1, "=R[--1]C": 1, "=R[ 1]C": 1, "=RC[1": 3, "=RC[]": 3, "=RC[x]": 3,
    "=R1C[2": 4, "=RC[1][2]": 6, "=R[1]C[2]3": 9, "=R[1]CR": 6, "=R[1]Cx": 6, "=R C": 1, "=RC:": 4, "=RC:R": 4, "=RC:A1": 4, "=RC RC": 4,
    "=RC:RC:RC": 6, "=R1!RC": 1, "=RC!RC": 3, "=R[1]C!RC": 6, "=R[1]C(1)": 6, "=rc(1)": 1, "=Data!A1": 6, "=Data!R": 6, "=RC(": 4,
    '=RC&"a': 6, "=RC'a": 3, "=(RC": 4, "=RC)": 3, "=RC+": 4, "=[1]": 1, "=RC$1": 3,
}


class Texts(unittest.TestCase):
    def test_each_sort_of_part(self):
        for text, (form, _) in FORMS.items():
            self.assertEqual(print_form(form), text)
            self.assertEqual(print_form(form=form), text)
            self.assertEqual(read_form(text), form)
            self.assertEqual(read_form(text=text), form)

    def test_spaces_and_needless_pairs(self):
        for text, told in (("= RC : R[1]C ", "=RC:R[1]C"), ("=(RC)", "=RC"), ("='Data'!R1C1", "=Data!R1C1"), ("=F( RC , 007 )", "=F(RC,7)")):
            self.assertEqual(print_form(read_form(text)), told)

    def test_places_of_wrong_texts(self):
        for text, place in WRONG.items():
            self.assertEqual(caught(BadFormula, read_form, text).place, place, text)
        for value in ODD_VALUES:
            if not isinstance(value, str):
                self.assertIsNone(caught(BadFormula, read_form, value).place)
        self.assertEqual(caught(BadFormula, read_form, "=1" + " " * 1999).place, 2000)

    def test_words_of_forms_are_no_words_of_formulas_and_the_other_way_round(self):
        for text in ("=RC", "=R1C1", "=R[1]C", "=RC:RC"):
            self.assertEqual(caught(BadFormula, read_formula, text).place, 1)
        for text in ("=A1", "=$A$1", "=A1:B2"):
            self.assertEqual(caught(BadFormula, read_form, text).place, 1)

    def test_forms_that_are_too_deep_or_too_heavy(self):
        given = caught(BadForm, read_form, "=" + "-" * 20 + "RC").given
        self.assertEqual(given[0], "minus")
        caught(BadForm, read_form, "=" + "+".join(["F(RC:RC,RC:RC,RC:RC,RC:RC)"] * 14))
        self.assertEqual(weight(read_form("=" + "+".join(["F(RC:RC,RC:RC,RC:RC,RC:RC)"] * 13))), 1998)

    def test_no_form(self):
        for value in [*ODD_VALUES, ("cell", None, (1, 1, False, False)), ("rcell", None, (9999, 0, False, False)), ("number", -1)]:
            self.assertEqual(caught(BadForm, print_form, value).given, value)
            self.assertEqual(caught(BadForm, room, value).given, value)

    def test_random_forms_are_read_back_and_shorter_than_their_weights(self):
        chance = random.Random(8)
        many = 0
        for _ in range(800):
            tree = random_tree(chance, chance.randint(1, 6))
            if is_tree(tree):
                many += 1
                form = relative(tree, (chance.randint(1, 9999), chance.randint(1, 702)))
                self.assertTrue(is_form(form))
                self.assertEqual(weight(form), weight(tree))
                self.assertEqual(read_form(print_form(form)), form)
                self.assertLessEqual(len(print_form(form)), weight(form) + 1)
        self.assertGreater(many, 500)


class Offsets(unittest.TestCase):
    def test_numbers_that_are_not_fixed_become_offsets(self):
        tree = read_formula("=A1+$B2:C$3+Data!$D$4+rate")
        form = relative(tree, (2, 2))
        self.assertEqual(print_form(form), "=R[-1]C[-1]+RC2:R3C[1]+Data!R4C4+rate")
        self.assertEqual(absolute(form, (2, 2)), tree)
        self.assertEqual(print_formula(absolute(form, (12, 3))), "=B11+$B12:D$3+Data!$D$4+rate")
        self.assertEqual(relative(tree=tree, place=(2, 2)), form)
        self.assertEqual(absolute(form=form, place=(2, 2)), tree)

    def test_bounds_of_offsets(self):
        self.assertEqual(relative(("cell", None, (1, 1, False, False)), (9999, 702)), ("rcell", None, (-9998, -701, False, False)))
        self.assertEqual(relative(("cell", None, (9999, 702, False, False)), (1, 1)), ("rcell", None, (9998, 701, False, False)))

    def test_a_reference_is_lost_as_a_whole(self):
        form = read_form("=SUM(R[-1]C:R[5]C,R[-1]C[-1])+RC[1]")
        self.assertEqual(print_formula(absolute(form, (2, 2))), "=SUM(B1:B7,A1)+C2")
        self.assertEqual(print_formula(absolute(form, (1, 2))), "=SUM(#REF!,#REF!)+C1")
        self.assertEqual(print_formula(absolute(form, (2, 1))), "=SUM(A1:A7,#REF!)+B2")
        self.assertEqual(print_formula(absolute(form, (9995, 702))), "=SUM(#REF!,ZY9994)+#REF!")
        self.assertEqual(print_formula(absolute(form, (9994, 702))), "=SUM(ZZ9993:ZZ9999,ZY9993)+#REF!")

    def test_wrong_arguments(self):
        tree, form = ("cell", None, (1, 1, False, False)), RC
        for value in ODD_VALUES:
            self.assertEqual(caught(BadTree, relative, value, None).given, value)
            self.assertEqual(caught(BadForm, absolute, value, None).given, value)
        caught(BadTree, relative, form, (1, 1))
        caught(BadForm, absolute, tree, (1, 1))
        for value in NOT_PLACES:
            self.assertEqual(caught(BadPlace, relative, tree, value).given, value)
            self.assertEqual(caught(BadPlace, absolute, form, value).given, value)


class Example(unittest.TestCase):
    def test_it_stands_as_written(self):
        tree = read_formula("=SUM($B1:C1)+A$9")
        self.assertEqual((print_form(relative(tree, (1, 4))), room(relative(tree, (1, 4)))), ("=SUM(RC2:RC[-1])+R9C[-3]", (1, 4, 9999, 702)))
        self.assertEqual(print_formula(fill(tree, (1, 4), (2, 3))), "=SUM($B2:B2)+#REF!")


class Rooms(unittest.TestCase):
    def test_rooms_of_one_place_none_and_all(self):
        for form, rectangle in FORMS.values():
            self.assertEqual(room(form), rectangle)
            self.assertEqual(room(form=form), rectangle)

    def test_the_room_is_where_nothing_is_lost(self):
        chance = random.Random(9)
        for _ in range(300):
            form = relative(random_tree(chance, 3), (chance.randint(1, 9999), chance.randint(1, 702)))
            rectangle = room(form)
            rows = {1, 9999} if rectangle is None else {1, 9999, *(rectangle[at] + by for at in (0, 2) for by in (-1, 0, 1))}
            columns = {1, 702} if rectangle is None else {1, 702, *(rectangle[at] + by for at in (1, 3) for by in (-1, 0, 1))}
            for row in rows - {0, 10000}:
                for column in columns - {0, 703}:
                    is_in = rectangle is not None and rectangle[0] <= row <= rectangle[2] and rectangle[1] <= column <= rectangle[3]
                    tree = absolute(form, (row, column))
                    self.assertEqual(lost_in(tree) == lost_in(form), is_in)
                    if is_in:
                        self.assertEqual(relative(tree, (row, column)), form)

    def test_rooms_of_references(self):
        form = read_form("=SUM(R[-1]C:R[5]C,R[-2]C1)+1")
        self.assertEqual(room_of(form, (2, 2, 0)), (2, 1, 9994, 702))
        self.assertEqual(room_of(form, (2, 2, 1)), (3, 1, 9999, 702))
        self.assertEqual(room_of(form=form, path=(2, 2, 0)), (2, 1, 9994, 702))
        self.assertEqual(room(form), (3, 1, 9994, 702))
        self.assertEqual(room_of(RC, ()), (1, 1, 9999, 702))
        self.assertIsNone(room_of(read_form("=R[9998]C:R[-9998]C"), ()))

    def test_paths_that_lead_to_no_reference(self):
        form = read_form("=SUM(R[-1]C:R[5]C,1)+RC")
        for path in [*ODD_VALUES, (2,), (2, 2), (2, 2, 1), (2, 2, 2), (3, 1), (3, 2), (2, 2, 0, 1), [3], (3.0,), ("3",), (2, 2, False),
                     (2, 2, -2), (4,), ((3,),), "3"]:
            self.assertEqual(caught(NoPart, room_of, form, path).path, path)
        self.assertEqual(room_of(form, (3,)), (1, 1, 9999, 702))
        for value in ODD_VALUES:
            self.assertEqual(caught(BadForm, room_of, value, None).given, value)


class Filling(unittest.TestCase):
    def test_there_and_back(self):
        tree = read_formula("=SUM($B1:C1)+A$9")
        other = fill(tree, (1, 4), (7, 5))
        self.assertEqual(print_formula(other), "=SUM($B7:D7)+B$9")
        self.assertEqual(fill(other, (7, 5), (1, 4)), tree)
        self.assertEqual(fill(tree=tree, start=(1, 4), goal=(1, 4)), tree)
        lost = fill(tree, (1, 4), (2, 3))
        self.assertEqual(print_formula(lost), "=SUM($B2:B2)+#REF!")
        self.assertEqual(print_formula(fill(lost, (2, 3), (1, 4))), "=SUM($B1:C1)+#REF!")

    def test_by_way_of_a_third_place(self):
        chance = random.Random(10)
        outside = 0
        for _ in range(500):
            places = [(chance.randint(1, 4), chance.randint(1, 4)) for _ in range(3)]
            parts = [(chance.randint(1, 5), chance.randint(1, 5), chance.random() < 0.3, chance.random() < 0.3) for _ in range(3)]
            tree = ("op", "+", ("cell", None, parts[0]), ("range", "Data", parts[1], parts[2]))
            form = relative(tree, places[0])
            at_once = fill(tree, places[0], places[2])
            by_way = fill(fill(tree, places[0], places[1]), places[1], places[2])
            if not lost_by(tree, places[0], places[1]):
                self.assertEqual(by_way, at_once)
            else:
                outside += 1
                for path, _ in references(form):
                    self.assertEqual(by_way[path[0]], LOST if path in lost_by(tree, places[0], places[1]) else at_once[path[0]])
        self.assertGreater(outside, 50)

    def test_what_is_lost(self):
        tree = read_formula("=SUM(A1,B$1:B2,#REF!)+$A5")
        self.assertEqual(lost_by(tree, (2, 2), (1, 1)), [(2, 2, 0)])
        self.assertEqual(lost_by(tree, (3, 2), (1, 2)), [(2, 2, 0), (2, 2, 1)])
        self.assertEqual(lost_by(tree, (2, 2), (1, 2)), [(2, 2, 0)])
        self.assertEqual(lost_by(tree=tree, start=(2, 2), goal=(3, 3)), [])
        self.assertEqual(lost_by(tree, (2, 2), (9999, 1)), [(2, 2, 0), (3,)])
        self.assertEqual(lost_by(("cell", None, (1, 1, False, False)), (2, 1), (1, 1)), [()])
        self.assertEqual(lost_by(LOST, (2, 2), (1, 1)), [])

    def test_the_same_form(self):
        one, other = read_formula("=A1+$B$2"), read_formula("=B3+$B$2")
        self.assertIs(same_form(one, (1, 1), other, (3, 2)), True)
        self.assertIs(same_form(one, (1, 1), other, (3, 3)), False)
        self.assertIs(same_form(tree=one, place=(1, 1), other=one, goal=(1, 1)), True)
        self.assertIs(same_form(one, (1, 1), one, (1, 2)), False)
        self.assertIs(same_form(ONE, (1, 1), ONE, (9, 9)), True)
        self.assertIs(same_form(ONE, (1, 1), ("truth", True), (9, 9)), False)
        self.assertIs(same_form(read_formula("=A1"), (1, 1), read_formula("=$A$1"), (1, 1)), False)
        self.assertIs(same_form(read_formula("=A1"), (1, 1), read_formula("=Data!A1"), (1, 1)), False)

    def test_one_filling_alone_does_not_make_the_forms_equal(self):
        tree = read_formula("=A1")
        self.assertEqual(fill(tree, (2, 1), (1, 1)), LOST)
        self.assertIs(same_form(tree, (2, 1), LOST, (1, 1)), False)
        self.assertEqual(fill(LOST, (1, 1), (2, 1)), LOST)

    def test_wrong_arguments_also_two_at_once(self):
        tree = read_formula("=A1")
        for call in (fill, lost_by):
            for value in ODD_VALUES:
                self.assertEqual(caught(BadTree, call, value, None, None).given, value)
            for value in NOT_PLACES:
                self.assertEqual(caught(BadPlace, call, tree, value, "x").given, value)
                self.assertEqual(caught(BadPlace, call, tree, (1, 1), value).given, value)
        for value in NOT_PLACES:
            self.assertEqual(caught(BadPlace, same_form, tree, value, None, None).given, value)
            self.assertEqual(caught(BadPlace, same_form, tree, (1, 1), tree, value).given, value)
        for value in ODD_VALUES:
            self.assertEqual(caught(BadTree, same_form, value, None, None, None).given, value)
            self.assertEqual(caught(BadTree, same_form, tree, (1, 1), value, None).given, value)


if __name__ == "__main__":
    unittest.main()
