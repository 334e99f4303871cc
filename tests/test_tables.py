"""[33] to [35] and gridfile/tables.py: string tables, style tables, number maps."""

import random
import unittest

from gridfile.errors import BadMap, BadNumber, BadTable, BadWord
from gridfile.tables import PART_SORTS, StyleTable, TextTable, joined_map
from gridfile.values import PLAIN
from support import ODD_VALUES, caught

FONT, WIDE = ("Mono", 9, True, False), ("Wide", 400, False, True)
EDGE, LEFT = (0, 1, 2, 3), ("left", True)
NO_ROWS = [value for value in ODD_VALUES if not isinstance(value, (list, tuple))]
NOT_TEXTS = [*[value for value in ODD_VALUES if not isinstance(value, str)], "x" * 201, chr(37), "\t", b"x"]
NOT_STYLES = [*ODD_VALUES, PLAIN[:4], list(PLAIN), ("", ("Plain", 10, 0, False), None, (0, 0, 0, 0), ("general", False)),
              ("", ("Plain", 10, False, False), None, (0, 0, 0, False), ("general", False))]


def style(at, part, base=PLAIN):
    return (*base[:at], part, *base[at + 1:])


S_FORMAT, S_FONT, S_FILL, S_BORDER, S_ALIGN = [style(at, part) for at, part in enumerate(("0.0", FONT, 0, EDGE, LEFT))]
FULL = ("0.0", FONT, 0, EDGE, LEFT)


class Texts(unittest.TestCase):
    def test_gaps_and_texts_that_occur_twice(self):
        table = TextTable(["b", None, "a", "b", "", None])
        self.assertEqual((table.texts, table.how_many), (("b", None, "a", "b", "", None), 6))
        self.assertEqual([table.text_at(number) for number in range(1, 7)], ["b", None, "a", "b", "", None])
        self.assertEqual([table.number_of(text) for text in ("a", "b", "", "c")], [3, 1, 5, None])
        self.assertEqual((table.text_at(number=3), table.number_of(text="a")), ("a", 3))
        self.assertEqual((TextTable().texts, TextTable().how_many, TextTable(texts=("a",)).texts), ((), 0, ("a",)))
        self.assertEqual(TextTable(["x" * 200, 'a"\n\\']).how_many, 2)

    def test_lists_that_are_passed_are_not_kept_or_changed(self):
        texts, things, numbers = ["a"], ["b", "c"], [2, 0, 2]
        table = TextTable(texts)
        texts.append("x")
        other = table.grown(things)
        things.append("y")
        other.compacted(numbers)
        self.assertEqual((table.texts, other.texts, numbers, things), (("a",), ("a", "b", "c"), [2, 0, 2], ["b", "c", "y"]))

    def test_what_has_no_number(self):
        table = TextTable(["1", None, "True"])
        for value in NOT_TEXTS:
            self.assertIsNone(table.number_of(value))

    def test_wrong_texts_and_numbers(self):
        for value in NOT_TEXTS:
            if value is not None:
                self.assertEqual(caught(BadTable, TextTable, ["a", None, value, 5]).at, 2)
        for value in NO_ROWS:
            self.assertIsNone(caught(BadTable, TextTable, value).at)
        table = TextTable(["a", None])
        for value in [*[value for value in ODD_VALUES if value != 1 or isinstance(value, bool)], 3]:
            self.assertEqual(caught(BadNumber, table.text_at, value).given, value)
        self.assertEqual(caught(BadNumber, TextTable().text_at, 1).given, 1)

    def test_growing(self):
        table = TextTable(["b", None, "b"])
        self.assertEqual(table.grown(["a", "b", "a", "c"]).texts, ("b", None, "b", "a", "c"))
        self.assertEqual(table.grown(things=()).texts, table.texts)
        self.assertEqual(table.texts, ("b", None, "b"))
        for value in NOT_TEXTS:
            self.assertEqual(caught(BadTable, table.grown, ("a", value, 5)).at, 1)
        for value in NO_ROWS:
            self.assertIsNone(caught(BadTable, table.grown, value).at)

    def test_merging(self):
        table = TextTable(["b", "a", "b"])
        other, numbers = table.merged(TextTable(["c", None, "a", "c"]))
        self.assertEqual((other.texts, numbers), (("b", "a", "b", "c"), (0, 4, None, 2, 4)))
        self.assertEqual(table.merged(other=table)[0].texts, table.texts)
        self.assertEqual(table.merged(table)[1], (0, 1, 2, 1))
        self.assertEqual(table.merged(TextTable())[1], (0,))
        for value in [*ODD_VALUES, StyleTable(), TextTable]:
            self.assertIsNone(caught(BadTable, table.merged, value).at)

    def test_compacting(self):
        table = TextTable(["b", None, "a", "b", "c"])
        told = {(): ((), (0, None, None, None, None, None)), (0,): ((), (0, None, None, None, None, None)),
                (5, 3, 5, 0): (("a", "c"), (0, None, None, 1, None, 2)), (4, 3): (("a", "b"), (0, None, None, 1, 2, None)),
                (4, 1): (("b",), (0, 1, None, None, 1, None)), (1, 3, 4, 5): (("b", "a", "c"), (0, 1, None, 2, 1, 3))}
        for given, (texts, numbers) in told.items():
            for row in (given, list(given)):
                other, found = table.compacted(row)
                self.assertEqual((other.texts, found), (texts, numbers))
        self.assertEqual(table.compacted(numbers=[3])[0].texts, ("a",))
        for value in [*[value for value in ODD_VALUES if value not in (0, 1) or isinstance(value, bool)], 2, 6]:
            self.assertEqual(caught(BadNumber, table.compacted, [1, value, 7]).given, value)
        for value in NO_ROWS:
            self.assertEqual(caught(BadNumber, table.compacted, value).given, value)

    def test_the_example(self):
        table, numbers = TextTable(("b", "a", "b")).merged(TextTable(("c", "a")))
        self.assertEqual((table.texts, numbers, table.compacted([4, 3])[1]), (("b", "a", "b", "c"), (0, 4, 2), (0, None, None, 1, 2)))


class Styles(unittest.TestCase):
    def table(self):
        return StyleTable((("0.0", "0.0", None), (FONT, WIDE), (None, 0, 5), (EDGE,), (LEFT,)),
                          ((1, 0, 0, 0, 0), None, (2, 0, 0, 0, 0), (0, 2, 2, 1, 0), (0, 0, 3, 0, 1)))

    def test_gaps_things_that_occur_twice_and_plain(self):
        table = self.table()
        self.assertEqual((table.how_many, len(table.parts), table.parts[0], table.rows[2]), (5, 5, ("0.0", "0.0", None), (2, 0, 0, 0, 0)))
        styles = [PLAIN, S_FORMAT, None, S_FORMAT, ("", WIDE, 0, EDGE, ("general", False)), style(4, LEFT, style(2, 5))]
        self.assertEqual([table.style_at(number) for number in range(6)], styles)
        self.assertEqual([table.number_of(one) for one in styles], [0, 1, None, 1, 4, 5])
        self.assertEqual([table.part_number("format", part) for part in ("", "0.0", "0")], [0, 1, None])
        self.assertEqual([table.part_number("font", part) for part in (PLAIN[1], FONT, WIDE)], [0, 1, 2])
        self.assertEqual([table.part_number("fill", part) for part in (None, 0, 5, 1)], [0, 2, 3, None])
        self.assertEqual([table.part_number("border", part) for part in (PLAIN[3], EDGE)], [0, 1])
        self.assertEqual([table.part_number("align", part) for part in (PLAIN[4], LEFT, ("right", False))], [0, 1, None])
        self.assertEqual((table.style_at(number=1), table.number_of(style=S_FORMAT), table.part_number(sort="fill", part=5)), (S_FORMAT, 1, 3))
        empty = StyleTable()
        self.assertEqual((empty.parts, empty.rows, empty.how_many, empty.number_of(PLAIN)), (((), (), (), (), ()), (), 0, 0))
        self.assertEqual(PART_SORTS, ("format", "font", "fill", "border", "align"))

    def test_what_has_no_number(self):
        table = self.table()
        for value in NOT_STYLES:
            self.assertIsNone(table.number_of(value))
        for value in ((0, 1, 2, True), (False, 1, 2, 3), [0, 1, 2, 3], (0, 1, 2, 3.0), *[value for value in ODD_VALUES if value is not None]):
            self.assertIsNone(table.part_number("border", value))
        self.assertIsNone(table.part_number("fill", False))
        self.assertIsNone(table.part_number("font", ("Mono", 9, 1, False)))
        self.assertIsNone(table.part_number("format", "\n"))
        for value in [*ODD_VALUES, "Format", "style", ["format"]]:
            self.assertEqual(caught(BadWord, table.part_number, value, None).given, value)
        for value in [*[value for value in ODD_VALUES if value not in (0, 1) or isinstance(value, bool)], 6]:
            self.assertEqual(caught(BadNumber, table.style_at, value).given, value)

    def test_wrong_parts(self):
        wrong = (("x" * 41, "\n", "", 5, chr(37), ("x",)), (PLAIN[1], ("", 9, False, False), ("a", 0, False, False), ("a", 9, 0, False), "a"),
                 (-1, 16777216, True, "0", 1.0), (PLAIN[3], (0, 0, 0, 4), (0, 0, 1), (0, 0, 0, True), [0, 1, 2, 3]),
                 (PLAIN[4], ("middle", False), ("left", 0), ("left",), None.__class__))
        for at, parts in enumerate(wrong):
            for part in parts:
                table = [(), (), (), (), ()]
                table[at] = (None, part)
                table[4] = table[4] or (5,)
                self.assertEqual(caught(BadTable, StyleTable, tuple(table)).at, at)
                self.assertEqual(caught(BadTable, StyleTable, tuple(table), (5,)).at, at)

    def test_what_is_no_table(self):
        five = ((), (), (), (), ())
        for value in [*ODD_VALUES, list(five), five[:4], (*five, ()), ((), (), [], (), ()), ((), (), (), (), None), ("", (), (), (), ())]:
            self.assertIsNone(caught(BadTable, StyleTable, value, ()).at)
        for value in [value for value in ODD_VALUES if not isinstance(value, tuple)]:
            self.assertIsNone(caught(BadTable, StyleTable, five, value).at)
            self.assertIsNone(caught(BadTable, StyleTable, ((5,), (), (), (), ()), value).at)

    def test_wrong_rows(self):
        parts = (("0.0", None), (FONT,), (None, 0), (EDGE,), (LEFT,))
        for row in [*[value for value in ODD_VALUES if value is not None and value != (1, 1, 1, 1, 1)], (0, 0, 0, 0, 0), (3, 0, 0, 0, 0), (2, 0, 0, 0, 0),
                    (0, 0, 1, 0, 0), (-1, 0, 0, 0, 0), (True, 0, 0, 0, 0), (1, 0, 0, 0), (1, 0, 0, 0, 0, 0), [1, 0, 0, 0, 0], (1, 2, 0, 0, 0),
                    (1, None, 0, 0, 0), (1, 0, 0, 0, "1"), (1, 0.0, 0, 0, 0), (1, 0, 0, False, 0)]:
            self.assertEqual(caught(BadTable, StyleTable, parts, (None, (1, 0, 2, 0, 1), row, 5)).at, 7)
        self.assertEqual(StyleTable(parts=parts, rows=((1, 1, 2, 1, 1), (0, 1, 0, 0, 0))).style_at(1), FULL)

    def test_growing_appends_parts_ahead_of_their_row(self):
        table = StyleTable().grown([S_FILL, PLAIN, FULL, S_FILL, style(1, WIDE)])
        self.assertEqual(table.parts, (("0.0",), (FONT, WIDE), (0,), (EDGE,), (LEFT,)))
        self.assertEqual(table.rows, ((0, 0, 1, 0, 0), (1, 1, 1, 1, 1), (0, 2, 0, 0, 0)))
        older = self.table()
        newer = older.grown(things=(S_BORDER, S_FORMAT, style(0, "x", S_FONT)))
        self.assertEqual(newer.rows, (*older.rows, (0, 0, 0, 1, 0), (3 + 1, 1, 0, 0, 0)))
        self.assertEqual(newer.parts[0], ("0.0", "0.0", None, "x"))
        self.assertEqual((older.how_many, older.parts), (5, self.table().parts))
        for value in NOT_STYLES:
            self.assertEqual(caught(BadTable, older.grown, [FULL, value, 5]).at, 1)
        for value in NO_ROWS:
            self.assertIsNone(caught(BadTable, older.grown, value).at)

    def test_merging(self):
        table = StyleTable().grown([S_FILL, S_FONT])
        other, numbers = table.merged(self.table())
        self.assertEqual(numbers, (0, 3, None, 3, 4, 5))
        self.assertEqual([other.style_at(number) for number in range(1, 6)],
                         [S_FILL, S_FONT, S_FORMAT, self.table().style_at(4), self.table().style_at(5)])
        self.assertEqual(other.parts, (("0.0",), (FONT, WIDE), (0, 5), (EDGE,), (LEFT,)))
        self.assertEqual(self.table().merged(other=self.table())[1], (0, 1, None, 1, 4, 5))
        self.assertEqual(self.table().merged(self.table())[0].rows, self.table().rows)
        for value in [*ODD_VALUES, TextTable(), StyleTable]:
            self.assertIsNone(caught(BadTable, table.merged, value).at)

    def test_compacting(self):
        other, numbers = self.table().compacted([5, 3, 0, 5, 1])
        self.assertEqual((other.rows, numbers), (((1, 0, 0, 0, 0), (0, 0, 1, 0, 1)), (0, 1, None, 1, None, 2)))
        self.assertEqual(other.parts, (("0.0",), (), (5,), (), (LEFT,)))
        other, numbers = self.table().compacted(numbers=(4,))
        self.assertEqual((other.rows, other.parts, numbers), (((0, 1, 1, 1, 0),), ((), (WIDE,), (0,), (EDGE,), ()), (0, None, None, None, 1, None)))
        self.assertEqual(self.table().compacted(())[1], (0, None, None, None, None, None))
        for value in [*[value for value in ODD_VALUES if value not in (0, 1) or isinstance(value, bool)], 2, 6]:
            self.assertEqual(caught(BadNumber, self.table().compacted, [1, value, 9]).given, value)
        for value in NO_ROWS:
            self.assertEqual(caught(BadNumber, self.table().compacted, value).given, value)

    def test_parts_by_first_use(self):
        table = StyleTable().grown([style(1, WIDE, S_FORMAT), style(0, "x", S_FONT), S_FONT])
        other, _ = table.compacted([3, 2])
        self.assertEqual(other.parts[:2], (("x",), (FONT,)))
        self.assertEqual(other.rows, ((1, 1, 0, 0, 0), (0, 1, 0, 0, 0)))


class Maps(unittest.TestCase):
    def test_joining(self):
        self.assertEqual(joined_map((0, 2, None, 1), (0, None, 7)), (0, 7, None, None))
        self.assertEqual(joined_map(first=(0,), second=(0, 5)), (0,))
        self.assertEqual(joined_map((0, None), (0,)), (0, None))

    def test_wrong_maps(self):
        wrong = [*[value for value in ODD_VALUES], (1, 1), (False, 1), (0, -1), (0, True), (0, "1"), (0, 1.0), [0, 1], (0, (1,)), (None,)]
        for value in wrong:
            self.assertEqual(caught(BadMap, joined_map, value, 5).given, value)
            self.assertEqual(caught(BadMap, joined_map, (0, 9), value).given, value)
        self.assertEqual(caught(BadMap, joined_map, (0, 1), (0,)).given, (0, 1))
        self.assertEqual(caught(BadMap, joined_map, (0, None, 3), (0, 1, 2)).given, (0, None, 3))
        self.assertEqual(joined_map((0, 2), (0, 1, 2)), (0, 2))

    def test_both_numbers_stand_for_the_same_thing(self):
        chance = random.Random(19)
        things = [style(at, part, base) for at, part in enumerate(("0.0", FONT, 7, EDGE, LEFT)) for base in (PLAIN, S_FILL, S_FONT) if at]
        for _ in range(60):
            drawn = [chance.choice(things) for _ in range(12)]
            one, other = StyleTable().grown(drawn[:6]), StyleTable().grown(drawn[6:])
            merged, numbers = one.merged(other)
            given = [number for number in numbers if chance.random() < 0.6]
            last, more = merged.compacted(given)
            for number, new in enumerate(joined_map(numbers, more)):
                if new is not None:
                    self.assertEqual(last.style_at(new), other.style_at(number))
            for number in range(one.how_many + 1):
                self.assertEqual(merged.style_at(number), one.style_at(number))


if __name__ == "__main__":
    unittest.main()
