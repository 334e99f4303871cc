"""[13], [17], [18] and gridfile/trees.py: trees, forms, paths and what stands in them."""

import random
import time
import unittest

from gridfile.errors import BadSheetName, BadTree, NoPart
from gridfile.trees import (MOST_CALLED, MOST_DEPTH, MOST_WEIGHT, depth, each_node, functions_in, how_many, is_all_fixed,
                            is_form, is_tree, level_of, lost_in, node_at, rectangle_of_reference, references, replaced,
                            sheets_in, weight, with_sheet, words_in, wrong_at)
from support import ODD_VALUES, caught

ONE = ("number", 1)
LOST = ("lost",)
A1 = (1, 1, False, False)
CELL = ("cell", None, A1)
RCELL = ("rcell", None, (0, 0, False, False))
SIGNS = {"=": 1, "<>": 1, "<": 1, "<=": 1, ">": 1, ">=": 1, "&": 2, "+": 3, "-": 3, "*": 4, "/": 4, "^": 5}

# Right by themselves in trees and forms, with their weights.
EITHER = {("number", 0): 16, ("number", 10 ** 15): 16, ("text", ""): 2, ("text", "x" * 200): 202, ("text", '"' * 200): 402,
          ("text", 'a"\nb'): 7, ("truth", True): 8, ("truth", False): 8, ("error", "NAME"): 8, ("error", "VALUE"): 8,
          ("error", "DIV"): 8, ("lost",): 8, ("name", "rate"): 20, ("name", "_"): 20, ("name", "x" * 20): 20,
          ("call", "F", ()): 22, ("call", "A1", ()): 22, ("call", "X" * 20, ()): 22, ("call", "TRUE", ()): 22}
TREES = {("cell", None, (1, 1, False, False)): 15, ("cell", "a b", (9999, 702, True, True)): 49,
         ("range", None, (1, 1, False, True), (2, 2, True, False)): 31,
         ("range", "Data", (9999, 702, True, True), (1, 1, True, True)): 65, ("range", None, A1, A1): 31}
FORMS = {("rcell", None, (0, 0, False, False)): 15, ("rcell", None, (-9998, -701, False, False)): 15,
         ("rcell", "a", (9998, 701, False, False)): 49, ("rcell", None, (9999, 702, True, True)): 15,
         ("rcell", None, (1, 1, True, True)): 15, ("rcell", None, (9999, -701, True, False)): 15,
         ("rrange", None, (0, 1, False, True), (1, 0, True, False)): 31, ("rrange", "a b", (-9998, 702, False, True),
                                                                         (9998, -1, False, False)): 65}
WRONG_EITHER = [
    None, 5, "number", "", [], ["number", 1], {}, (), ("",), (None,), (5,), (("number", 1),), ("Number", 1), ("other", 1),
    ("number",), ("number", 1, 1), ("number", -1), ("number", 10 ** 15 + 1), ("number", True), ("number", 1.0), ("number", "1"),
    ("number", None), ("text",), ("text", "x" * 201), ("text", chr(37)), ("text", "\t"), ("text", None), ("text", 5),
    ("text", "a", "b"), ("text", b"a"), ("truth",), ("truth", 1), ("truth", 0), ("truth", None), ("truth", True, True),
    ("error",), ("error", "REF"), ("error", "name"), ("error", None), ("error", "NAME", "NAME"), ("error", ["NAME"]),
    ("lost", None), ("lost", ()), ("name",), ("name", "A1"), ("name", "TRUE"), ("name", "rC1"), ("name", ""), ("name", "1a"),
    ("name", "x" * 21), ("name", 5), ("name", "a", "b"), ("name", None), ("call",), ("call", "F"), ("call", "F", None),
    ("call", "F", []), ("call", "F", (), ()), ("call", "", ()), ("call", "f", ()), ("call", "1F", ()), ("call", "X" * 21, ()),
    ("call", "A_B", ()), ("call", "A ", ()), ("call", None, ()), ("call", "F", "ab"), ("call", "F", {}),
    ("call", "F", (LOST,) * 31), ("op",), ("op", "+"), ("op", "+", ONE), ("op", "+", ONE, ONE, ONE), ("op", "==", ONE, ONE),
    ("op", "", ONE, ONE), ("op", None, ONE, ONE), ("op", ["+"], ONE, ONE), ("op", "minus", ONE, ONE), ("minus",),
    ("minus", ONE, ONE), ("minus", "+", ONE), ("tree", ONE)]
WRONG_PARTS = [None, (), "A1", (1, 1), (1, 1, True), (1, 1, True, True, True), [1, 1, True, True], (1, 1, 1, True),
               (1, 1, True, 0), (1, 1, None, True), (True, 1, True, True), (1, True, True, True), (0, 1, True, True),
               (1, 0, True, True), (10000, 1, True, True), (1, 703, True, True), (-1, 1, True, True), (1.0, 1, True, True),
               ("1", 1, True, True), ((1, 1), True, True, True)]
WRONG_OFFSETS = [(-9999, 0, False, False), (9999, 0, False, False), (0, -702, False, False), (0, 702, False, False),
                 (0, 0, True, False), (0, 0, False, True), (False, 0, False, False), (0, True, False, False),
                 (0.0, 0, False, False), (None, 0, False, False), (10000, 0, True, False), (0, 703, False, True)]
WRONG_SHEETS = ["", " a", "a ", "a:b", "x" * 32, 5, True, ("a",), "a'b", b"a"]


def minus(tree, many):
    for _ in range(many):
        tree = ("minus", tree)
    return tree


def right_trees():
    """Trees of all sorts, also within each other."""
    leaves = [*EITHER, *TREES]
    yield from leaves
    for leaf in leaves:
        yield ("minus", leaf)
        yield ("op", "+", leaf, ONE)
        yield ("call", "SUM", (ONE, leaf))
    for sign in SIGNS:
        yield ("op", sign, ONE, CELL)


class Kinds(unittest.TestCase):
    def test_limits(self):
        self.assertEqual((MOST_DEPTH, MOST_WEIGHT, MOST_CALLED), (20, 1999, 30))

    def test_right_trees(self):
        for tree in right_trees():
            self.assertIs(is_tree(tree), True, tree)
            self.assertIsNone(wrong_at(tree), tree)

    def test_right_forms(self):
        for form in [*EITHER, *FORMS, ("op", "+", RCELL, ONE), ("call", "F", (RCELL, LOST))]:
            self.assertIs(is_form(form), True, form)
        for tree in EITHER:
            self.assertIs(is_form(tree) and is_tree(tree), True)

    def test_references_of_the_other_kind(self):
        for tree in TREES:
            self.assertIs(is_form(tree), False, tree)
            self.assertIs(is_form(("minus", tree)), False)
        for form in FORMS:
            self.assertIs(is_tree(form), False, form)
            self.assertEqual(wrong_at(("minus", form)), (1,))
        mixed = ("op", "+", CELL, RCELL)
        self.assertIs(is_tree(mixed) or is_form(mixed), False)

    def test_what_is_wrong_by_itself(self):
        for value in WRONG_EITHER:
            self.assertIs(is_tree(value), False)
            self.assertIs(is_form(value), False)
            self.assertEqual(wrong_at(value), ())
            self.assertEqual(wrong_at(("call", "F", (ONE, value))), (2, 1))
            self.assertEqual(wrong_at(("op", "+", ONE, ("minus", value))), (3, 1))
        for value in ODD_VALUES:
            self.assertIs(is_tree(value=value), False)
            self.assertIs(is_form(value=value), False)

    def test_wrong_parts_and_sheets(self):
        for part in WRONG_PARTS:
            for tree in (("cell", None, part), ("range", None, part, A1), ("range", None, A1, part)):
                self.assertEqual(wrong_at(tree), ())
        for part in WRONG_PARTS[:13] + WRONG_OFFSETS:
            right = RCELL[2]
            for form in (("rcell", None, part), ("rrange", None, part, right), ("rrange", None, right, part)):
                self.assertIs(is_form(form), False, form)
        for sheet in WRONG_SHEETS:
            for value in (("cell", sheet, A1), ("range", sheet, A1, A1), ("rcell", sheet, RCELL[2]),
                          ("rrange", sheet, RCELL[2], RCELL[2])):
                self.assertIs(is_tree(value) or is_form(value), False, value)

    def test_references_of_other_sizes(self):
        for value in (("cell",), ("cell", None), ("cell", None, A1, A1), ("cell", A1), ("range", None, A1),
                      ("range", None, A1, A1, A1), ("rcell", None), ("rrange", None, RCELL[2])):
            self.assertEqual(wrong_at(value), ())
            self.assertIs(is_form(value), False)


class Limits(unittest.TestCase):
    def test_twenty_deep_and_one_more(self):
        self.assertIs(is_tree(minus(ONE, 19)), True)
        self.assertEqual(depth(minus(ONE, 19)), 20)
        self.assertEqual(wrong_at(minus(ONE, 20)), (1,) * 20)
        self.assertIs(is_form(minus(RCELL, 19)), True)
        self.assertIs(is_form(minus(RCELL, 20)), False)
        deep = minus(ONE, 18)
        self.assertIsNone(wrong_at(("call", "F", (ONE, deep))))
        self.assertEqual(wrong_at(("call", "F", (ONE, minus(deep, 1)))), (2, 1) + (1,) * 19)

    def test_weight_of_1999_and_one_more(self):
        # 22 and 5 for the call, 4 * 402 for four texts, 2 + 190 + 172 for the last one.
        texts = (("text", '"' * 200),) * 4
        exact = ("call", "F", (*texts, ("text", '"' * 172 + "x" * 18)))
        self.assertEqual(weight(exact), 1999)
        self.assertIsNone(wrong_at(exact))
        heavier = ("call", "F", (*texts, ("text", '"' * 172 + "x" * 19)))
        self.assertEqual(wrong_at(heavier), (2, 4))
        self.assertEqual(wrong_at(("minus", exact)), (1, 2, 4))
        self.assertIs(is_form(exact), True)
        self.assertIs(is_form(heavier), False)

    def test_the_first_tree_that_is_too_heavy_or_wrong_is_told(self):
        heavy = ("call", "F", (("call", "G", (("text", '"' * 200),) * 4), *(("text", "x" * 200),) * 3))
        # 22 + 4 + 22 + 4 and 4 * 402 and 202 are 1862; the next text is one too many.
        self.assertEqual(wrong_at(heavy), (2, 2))
        self.assertEqual(wrong_at(("op", "+", heavy, None)), (2, 2, 2))
        self.assertEqual(wrong_at(("op", "+", None, heavy)), (2,))
        self.assertEqual(wrong_at(("op", "+", minus(ONE, 30), None)), (2,) + (1,) * 19)
        self.assertEqual(wrong_at(("op", "+", ("op", "?", None, None), None)), (2,))
        self.assertEqual(wrong_at(("call", "F", (("call", "G", (ONE, ("minus",), None)), None))), (2, 0, 2, 1))

    def test_thirty_trees_of_a_call_and_one_more(self):
        self.assertIsNone(wrong_at(("call", "F", (ONE,) * 30)))
        self.assertEqual(wrong_at(("call", "F", (ONE,) * 31)), ())
        self.assertEqual(wrong_at(("minus", ("call", "F", (None,) * 31))), (1,))

    def test_deep_values_in_which_a_part_stands_many_times(self):
        began = time.monotonic()
        for leaf in (ONE, None, LOST, CELL, RCELL):
            wide, twice, chain = leaf, leaf, leaf
            for _ in range(18):
                wide = ("call", "F", (wide,) * 30)
                twice = ("op", "+", twice, twice)
            self.assertIs(is_tree(wide), False)
            self.assertIs(is_form(wide), False)
            self.assertIs(is_tree(twice), False)
            for _ in range(3000):
                chain = ("op", "*", chain, chain)
            self.assertEqual(wrong_at(chain), (2,) * 20)
            self.assertEqual(caught(BadTree, depth, wide).given[0], "call")
            self.assertEqual(caught(BadTree, replaced, ONE, (), twice).given[0], "op")
        self.assertEqual(wrong_at(("call", "F", (ONE,) * 10 ** 6)), ())
        self.assertLess(time.monotonic() - began, 5)

    def test_trees_of_greatest_weight_in_which_a_part_stands_many_times(self):
        part = ("call", "F", (("call", "G", ()),) * 30)
        tree = ("op", "+", part, part)
        self.assertEqual((weight(tree), how_many(tree)), (4 + 2 * (52 + 30 * 22), 63))
        self.assertEqual(wrong_at(("op", "+", tree, part)), (3, 2, 23))


class Measures(unittest.TestCase):
    def test_own_weights(self):
        for value, own in {**EITHER, **TREES, **FORMS}.items():
            self.assertEqual(weight(value), own, value)
            self.assertEqual((depth(value), how_many(value)), (1, 1))
            if own < 1900:
                wrapped = ("op", "-", ("minus", value), ("call", "F", (value, LOST)))
                self.assertEqual(weight(wrapped), 4 + 1 + own + 24 + own + 8)
                self.assertEqual((depth(wrapped), how_many(wrapped)), (3, 6))

    def test_levels(self):
        for sign, level in SIGNS.items():
            self.assertEqual(level_of(("op", sign, ONE, RCELL)), level)
        self.assertEqual(level_of(("minus", ("op", "=", ONE, ONE))), 6)
        for value in {**EITHER, **TREES, **FORMS}:
            self.assertEqual(level_of(tree=value), 7)

    def test_arguments_by_name(self):
        self.assertEqual((depth(tree=ONE), weight(tree=ONE), how_many(tree=ONE)), (1, 16, 1))


TREE = ("op", "&", ("call", "SUM", (("range", "b", (3, 2, True, False), (1, 5, False, True)), ("minus", CELL), LOST)),
        ("op", "+", ("call", "IF", (("name", "x_"), ("cell", "a", A1), ("name", "X_"), ("call", "SUM", ()))),
         ("op", "*", ("name", "x_"), LOST)))
PATHS = [(), (2,), (2, 2, 0), (2, 2, 1), (2, 2, 1, 1), (2, 2, 2), (3,), (3, 2), (3, 2, 2, 0), (3, 2, 2, 1), (3, 2, 2, 2),
         (3, 2, 2, 3), (3, 3), (3, 3, 2), (3, 3, 3)]


class Paths(unittest.TestCase):
    def test_reading_order(self):
        self.assertEqual([path for path, _ in each_node(TREE)], PATHS)
        self.assertEqual(how_many(TREE), 15)
        self.assertEqual(depth(TREE), 4)

    def test_each_path_leads_to_its_tree(self):
        for path, tree in each_node(tree=TREE):
            inner = TREE
            for step in path:
                inner = inner[step]
            self.assertEqual(tree, inner)
            self.assertEqual(node_at(tree=TREE, path=path), inner)
        self.assertEqual(node_at(("minus", RCELL), (1,)), RCELL)

    def test_paths_that_lead_nowhere_or_are_none(self):
        for path in ((0,), (1,), (4,), (-1,), (2, 2), (2, 0), (2, 2, 3), (2, 2, -1), (3, 2, 2, 4), (2, 2, 1, 2), (2, 2, 1, 1, 2),
                     (2, 2, 0, 1), (2, 3), (True,), (2.0,), (2, 2, False), (2, 2, 0.0), ("2",), (None,), [2], [], None, 2, "",
                     "2", {}, (10 ** 30,), ((2,),), ([],), (2,) * 1000, (-2,), object()):
            self.assertIs(caught(NoPart, node_at, TREE, path).path, path)
            self.assertIs(caught(NoPart, replaced, TREE, path, ONE).path, path)
        self.assertEqual(caught(NoPart, node_at, ("minus", ("minus", ONE)), (1, True)).path, (1, True))

    def test_replaced(self):
        for path in PATHS:
            result = replaced(TREE, path, ("text", "new"))
            self.assertEqual(node_at(result, path), ("text", "new"))
            for other in PATHS:
                if other[:len(path)] != path and path[:len(other)] != other:
                    self.assertEqual(node_at(result, other), node_at(TREE, other))
        self.assertEqual(replaced(tree=("op", "+", ONE, LOST), path=(3,), other=CELL), ("op", "+", ONE, CELL))
        self.assertEqual(replaced(("call", "F", (ONE, LOST, ONE)), (2, 1), CELL), ("call", "F", (ONE, CELL, ONE)))
        self.assertEqual(replaced(ONE, (), TREE), TREE)

    def test_refused_replacements_in_their_order(self):
        self.assertIs(caught(BadTree, replaced, None, None, None).given, None)
        self.assertEqual(caught(NoPart, replaced, ONE, (1,), None).path, (1,))
        for value in (None, RCELL, ("number", -1)):
            self.assertIs(caught(BadTree, replaced, ONE, (), value).given, value)
        self.assertEqual(caught(BadTree, replaced, RCELL, (), ONE).given, RCELL)
        deep = minus(ONE, 19)
        self.assertEqual(replaced(deep, (1,) * 18, deep[1] and ("minus", LOST)), minus(LOST, 19))
        self.assertEqual(caught(BadTree, replaced, deep, (1,) * 19, ("minus", ONE)).given, minus(ONE, 20))
        heavy = ("call", "F", (("text", '"' * 200),) * 4)
        result = ("op", "+", heavy, ("text", '"' * 200))
        self.assertEqual(caught(BadTree, replaced, ("op", "+", ONE, result[3]), (2,), heavy).given, result)


class Contents(unittest.TestCase):
    def test_references(self):
        found = references(TREE)
        self.assertEqual([path for path, _ in found], [(2, 2, 0), (2, 2, 1, 1), (3, 2, 2, 1)])
        self.assertEqual([node for _, node in found], [node_at(TREE, path) for path, _ in found])
        self.assertEqual(references(tree=LOST), [])
        self.assertEqual(references(("minus", RCELL)), [((1,), RCELL)])
        self.assertIsNot(references(TREE), references(TREE))

    def test_rectangles_of_references(self):
        self.assertEqual(rectangle_of_reference(("range", "b", (3, 2, True, False), (1, 5, False, True))), (1, 2, 3, 5))
        self.assertEqual(rectangle_of_reference(("range", None, (9999, 702, True, False), A1)), (1, 1, 9999, 702))
        self.assertEqual(rectangle_of_reference(tree=("cell", "b", (3, 2, True, False))), (3, 2, 3, 2))
        for value in (ONE, LOST, TREE, ("minus", CELL), RCELL, ("rrange", None, RCELL[2], RCELL[2]), ("cell", None), None):
            self.assertIs(caught(BadTree, rectangle_of_reference, value).given, value)

    def test_sheets_words_functions_lost_ones(self):
        self.assertEqual(sheets_in(TREE), ("a", "b"))
        self.assertEqual(words_in(TREE), ("X_", "x_"))
        self.assertEqual(functions_in(TREE), ("IF", "SUM"))
        self.assertEqual(lost_in(TREE), 2)
        form = ("op", "+", ("rcell", "b", RCELL[2]), ("call", "F", (("rcell", "B", RCELL[2]), ("name", "n"), LOST, RCELL)))
        self.assertEqual((sheets_in(form), words_in(form), functions_in(form), lost_in(form)), (("B", "b"), ("n",), ("F",), 1))
        self.assertEqual((sheets_in(tree=ONE), words_in(tree=ONE), functions_in(tree=ONE), lost_in(tree=ONE)), ((), (), (), 0))

    def test_with_sheet(self):
        tree = ("op", "+", ("cell", "a", A1), ("call", "F", (CELL, ("range", "a", A1, (2, 2, True, True)), ("cell", "A", A1))))
        self.assertEqual(with_sheet(tree, "a", "c d"), ("op", "+", ("cell", "c d", A1), (
            "call", "F", (CELL, ("range", "c d", A1, (2, 2, True, True)), ("cell", "A", A1)))))
        self.assertEqual(sheets_in(with_sheet(tree, "a", None)), ("A",))
        self.assertEqual(with_sheet(tree=tree, old=None, new="n")[3][2][0], ("cell", "n", A1))
        self.assertEqual(with_sheet(tree, "b", "c"), tree)
        self.assertEqual(with_sheet(tree, "a", "a"), tree)
        self.assertEqual(with_sheet(LOST, None, "c"), LOST)

    def test_refused_sheets_in_their_order(self):
        for value in WRONG_SHEETS + [value for value in ODD_VALUES if value is not None and not isinstance(value, str)]:
            self.assertIs(caught(BadSheetName, with_sheet, CELL, value, None).given, value)
            self.assertIs(caught(BadSheetName, with_sheet, CELL, value, "a:").given, value)
            self.assertIs(caught(BadSheetName, with_sheet, CELL, None, value).given, value)
        self.assertIs(caught(BadTree, with_sheet, RCELL, "", "").given, RCELL)
        cells = ("call", "F", (CELL,) * 30)
        result = with_sheet(cells, None, "a")
        self.assertEqual(weight(result), 22 + 30 + 30 * 49)
        wide = ("op", "+", cells, ("call", "F", (CELL,) * 30))
        heavy = caught(BadTree, with_sheet, wide, None, "a").given
        self.assertEqual(heavy, ("op", "+", result, result))

    def test_is_all_fixed(self):
        self.assertIs(is_all_fixed(ONE), True)
        self.assertIs(is_all_fixed(("cell", None, (1, 1, True, True))), True)
        for marks in ((True, False), (False, True), (False, False)):
            self.assertIs(is_all_fixed(("cell", None, (1, 1, *marks))), False)
            self.assertIs(is_all_fixed(("minus", ("range", None, (1, 1, True, True), (1, 1, *marks)))), False)
            self.assertIs(is_all_fixed(tree=("minus", ("range", None, (1, 1, *marks), (1, 1, True, True)))), False)
        self.assertIs(is_all_fixed(("op", "+", ("range", None, (1, 1, True, True), (2, 2, True, True)), LOST)), True)


class Refusals(unittest.TestCase):
    TAKE_FORMS = [depth, weight, level_of, how_many, lambda tree: list(each_node(tree)), lambda tree: node_at(tree, None),
                  references, sheets_in, words_in, functions_in, lost_in]
    TAKE_TREES = [rectangle_of_reference, is_all_fixed, lambda tree: with_sheet(tree, "", ""),
                  lambda tree: replaced(tree, None, None)]

    def test_what_is_neither_tree_nor_form(self):
        mixed = ("op", "+", CELL, RCELL)
        for call in self.TAKE_FORMS + self.TAKE_TREES:
            for value in [*WRONG_EITHER, *ODD_VALUES, mixed, minus(ONE, 20)]:
                self.assertIs(caught(BadTree, call, value).given, value)

    def test_forms_where_trees_are_taken(self):
        for call in self.TAKE_TREES:
            for form in FORMS:
                self.assertIs(caught(BadTree, call, form).given, form)


class Random(unittest.TestCase):
    def tree(self, chance, deep):
        kind = chance.randrange(6) if deep > 1 else 0
        if kind == 1:
            return ("minus", self.tree(chance, deep - 1))
        if kind in (2, 3):
            return ("op", chance.choice(list(SIGNS)), self.tree(chance, deep - 1), self.tree(chance, deep - 1))
        if kind == 4:
            return ("call", "F", tuple(self.tree(chance, deep - 1) for _ in range(chance.randrange(4))))
        return chance.choice([*EITHER, *TREES, None, ("number", -1), RCELL])

    def first_wrong(self, value, path, state):
        """By recursion, and with the weights of the tables above."""
        leaves = {**EITHER, **TREES}
        own = {"minus": 1, "op": 4}.get(value[0]) if value else None
        if value and value[0] == "call" and value not in leaves:
            own = 22 + len(value[2])
        own = leaves.get(value) if own is None else own
        if own is None or len(path) - state["calls"] >= 20:
            return path
        state["weight"] += own
        if state["weight"] > 1999:
            return path
        if value in leaves:
            return None
        inner = {"minus": [(1,)], "op": [(2,), (3,)]}.get(value[0]) or [(2, at) for at in range(len(value[2]))]
        for steps in inner:
            tree = value[steps[0]] if len(steps) == 1 else value[2][steps[1]]
            state["calls"] += len(steps) - 1
            wrong = self.first_wrong(tree, path + steps, state)
            if wrong is not None:
                return wrong
            state["calls"] -= len(steps) - 1
        return None

    def test_against_recursion(self):
        chance = random.Random(7)
        seen = {True: 0, False: 0}
        for _ in range(3000):
            value = self.tree(chance, chance.randrange(1, 10))
            expected = self.first_wrong(value, (), {"weight": 0, "calls": 0})
            self.assertEqual(wrong_at(value), expected)
            seen[expected is None] += 1
        self.assertGreater(min(seen.values()), 300)


if __name__ == "__main__":
    unittest.main()
