"""[2], [6], [7] and gridfile/values.py: values, styles, and what is the same."""

import itertools
import unittest

from gridfile.values import PLAIN, is_style, is_value, same
from support import ODD_VALUES

FONT = ("Plain", 10, False, False)
BORDER = (0, 0, 0, 0)
ALIGN = ("general", False)


class Values(unittest.TestCase):
    RIGHT = [None, True, False, 0, 1, -1, 10 ** 15, -10 ** 15, "", "x", "a b\nc", "x" * 200, "\n" * 200, "TRUE", "~ !",
             ("error", "REF"), ("error", "NAME"), ("error", "VALUE"), ("error", "DIV")]
    WRONG = [10 ** 15 + 1, -10 ** 15 - 1, 10 ** 400, 1.0, 0.5, float("nan"), "x" * 201, "\x7f", "a" + chr(37), "\t", "\r",
             "\u00e9", "\x00", b"x", (), ("error",), ("error", "REF", "REF"), ("error", "ref"), ("error", "OTHER"),
             ("error", None), ("error", ""), ("Error", "REF"), ("REF", "error"), ["error", "REF"], ("error", ["REF"]),
             (["error"], "REF"), ("error", ("REF",)), ["x"], {}, {"x"}, object(), 1j, ("text", "x")]

    def test_right_ones(self):
        for value in self.RIGHT:
            self.assertIs(is_value(value), True, value)

    def test_wrong_ones(self):
        for value in self.WRONG:
            self.assertIs(is_value(value), False)

    def test_values_of_any_kind(self):
        for value in ODD_VALUES:
            is_small = isinstance(value, int) and -1 <= value <= 1
            expected = value is None or isinstance(value, str) or is_small
            self.assertIs(is_value(value=value), expected)


class Styles(unittest.TestCase):
    RIGHT_PARTS = [
        ["", "0.00", "x" * 40, " ", "#,##0 [x]"],
        [FONT, ("x", 1, True, True), ("y" * 31, 400, False, True), (" ", 10, True, False)],
        [None, 0, 1, 16777215],
        [BORDER, (3, 3, 3, 3), (0, 1, 2, 3)],
        [("general", False), ("left", True), ("center", False), ("right", True)],
    ]
    WRONG_PARTS = [
        ["x" * 41, "a\nb", "\n", "a" + chr(37), "\t", "\u00e9", None, 5, True, b"", ("",), [""]],
        [("", 10, False, False), ("x" * 32, 10, False, False), ("x\n", 10, False, False), ("x", 0, False, False),
         ("x", 401, False, False), ("x", -1, False, False), ("x", True, False, False), ("x", "10", False, False),
         ("x", 10, 0, False), ("x", 10, False, 0), ("x", 10, 1, False), ("x", 10, False, None), ("x", 10, False),
         ("x", 10, False, False, False), ["x", 10, False, False], (None, 10, False, False), ("x" + chr(37), 1, False, False),
         None, "x", (), ("x", 10.0, False, False), ("x", None, False, False)],
        [-1, 16777216, True, False, "0", 1.0, (), (None,), "none"],
        [(0, 0, 0), (0, 0, 0, 0, 0), (0, 0, 0, 4), (-1, 0, 0, 0), (True, 0, 0, 0), (0, 0, 0, False), [0, 0, 0, 0], None, 0,
         "0000", (0, 0, None, 0), (0, 0, 1.0, 0), ()],
        [("middle", False), ("General", False), ("left", 0), ("left", 1), ("left", None), ("left",), ("left", True, True),
         ["left", True], (True, "left"), "left", None, (), (None, False), (["left"], False), ("", False)],
    ]

    def test_plain(self):
        self.assertEqual(repr(PLAIN), "('', ('Plain', 10, False, False), None, (0, 0, 0, 0), ('general', False))")
        self.assertIs(is_style(PLAIN), True)

    def test_right_parts(self):
        for style in itertools.product(*self.RIGHT_PARTS):
            self.assertIs(is_style(style), True, style)

    def test_each_wrong_part(self):
        for at, parts in enumerate(self.WRONG_PARTS):
            for part in parts:
                self.assertIs(is_style(PLAIN[:at] + (part,) + PLAIN[at + 1:]), False, (at, part))

    def test_other_sizes_and_kinds(self):
        for value in (PLAIN[:4], PLAIN + ("",), PLAIN[1:], list(PLAIN), PLAIN[::-1], (PLAIN,), (), None, "") + ODD_VALUES:
            self.assertIs(is_style(value), False)
        self.assertIs(is_style(value=PLAIN), True)


class Same(unittest.TestCase):
    # No two of these are the same, though Python takes some for equal.
    DIFFERENT = [None, True, False, 1, 0, -1, "", "1", "True", (), (None,), (True,), (1,), (0,), (False,), ("",), ((),),
                 (1, 1), (1, True), (True, 1), (True, True), ((1,), 1), ((True,), 1), ((1,), True), ("error", "REF"),
                 ("error", "NAME"), ("truth", True), ("truth", False), ("number", 1), ("number", 0), ("text", "1"), ("lost",),
                 ("cell", None, (1, 1, True, True)), ("cell", None, (1, 1, True, False)), ("cell", "a", (1, 1, True, True)),
                 ("cell", "A", (1, 1, True, True)), ("minus", ("number", 1)), ("call", "F", ()), ("call", "F", (("lost",),)),
                 PLAIN, PLAIN[:4], ("",) + (("Plain", 10, False, True),) + PLAIN[2:], PLAIN[:2] + (0,) + PLAIN[3:],
                 (1, 1, 1, 1), (True, 1, 1, 1), ((1, (2, (3, (True,)))),), ((1, (2, (3, (1,)))),)]

    def test_all_pairs(self):
        for (at, one), (by, other) in itertools.product(enumerate(self.DIFFERENT), repeat=2):
            self.assertIs(same(one, other), at == by, (one, other))

    def test_equal_ones_that_were_made_apart(self):
        for value in self.DIFFERENT:
            copy = eval(repr(value))
            self.assertIs(same(value, copy), True)
            self.assertIs(same(one=value, other=copy), True)

    def test_kinds_within_styles(self):
        self.assertIs(same(PLAIN, ("", ("Plain", 10, 0, False), None, (0, 0, 0, 0), ("general", False))), False)
        self.assertIs(same(PLAIN, ("", ("Plain", 10, False, False), None, (0, 0, 0, False), ("general", False))), False)

    def test_deep_trees(self):
        one = other = wrong = ("number", 1)
        wrong = ("truth", True)
        for _ in range(9):
            one, other, wrong = ("op", "+", one, one), ("op", "+", other, other), ("op", "+", wrong, wrong)
        self.assertIs(same(one, other), True)
        self.assertIs(same(one, wrong), False)


if __name__ == "__main__":
    unittest.main()
