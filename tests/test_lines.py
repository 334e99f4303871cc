"""[5] and gridfile/lines.py: strings of the file, words, texts and lines, written and read."""

import itertools
import re
import unittest

from gridfile.errors import BadLine
from gridfile.lines import (MOST_ITEMS, MOST_TEXT, MOST_WORD, is_line, is_string, is_word, line_of, line_text, lines_of,
                            lines_text)
from support import ODD_VALUES, caught

PERCENT = chr(37)
ITEM = r'(?:[!#-$&-\[\]-~]{1,100}|"(?:[ !#-$&-\[\]-~]|""|\\\\|\\n){0,2000}")'
WRITTEN = re.compile(f"{ITEM}(?: {ITEM}){{0,19}}", re.ASCII)
# The words and texts of a string of these characters end with at most two more of them.
ENDINGS = ("", "x", '"', 'n"', '\\"')
OTHER_KINDS = [value for value in ODD_VALUES if not isinstance(value, str)]


def first_wrong(text):
    """The length of the longest beginning that some written line has."""
    for at in range(len(text) + 1):
        if not any(WRITTEN.fullmatch(text[:at] + ending) for ending in ENDINGS):
            return at - 1
    return len(text)


class Strings(unittest.TestCase):
    def test_each_sign(self):
        for code in list(range(0, 300)) + [0x2028, 0x1f600, 0xd800]:
            sign = chr(code)
            allowed = sign == "\n" or 32 <= code <= 126 and code != 37
            self.assertIs(is_string(sign), allowed, code)
            self.assertIs(is_string("a" + sign + "b"), allowed, code)
            self.assertIs(is_word(sign), 33 <= code <= 126 and sign not in '%"\\', code)
            self.assertIs(is_word("a" + sign + "b"), 33 <= code <= 126 and sign not in '%"\\', code)

    def test_lengths(self):
        self.assertEqual((MOST_TEXT, MOST_WORD, MOST_ITEMS), (2000, 100, 20))
        self.assertIs(is_string(""), True)
        self.assertIs(is_string("\n" * 2000), True)
        self.assertIs(is_string("a" * 2001), False)
        self.assertIs(is_word(""), False)
        self.assertIs(is_word("a" * 100), True)
        self.assertIs(is_word("a" * 101), False)

    def test_values_of_other_kinds(self):
        for value in OTHER_KINDS:
            self.assertIs(is_string(value), False)
            self.assertIs(is_word(value), False)
        self.assertIs(is_word(value="a"), True)
        self.assertIs(is_string(value="a b"), True)


class Lines(unittest.TestCase):
    RIGHT = [("a",), (("",),), ("sheet", "1", ("a b",), "r3"), (("x",), ("y",)), ("w",) * 20, (("\n",),) * 20,
             ("x" * 100, ("y" * 2000,)), (('"' * 2000,),), (("\\" * 2000,),), (("\n" * 2000,),), (("\\n",),), (('"\\\n',),)]
    WRONG = [(), ("",), ("a b",), ("a\n",), ("a" + PERCENT,), ("a\\",), ('"',), (("a" + PERCENT,),), (("\t",),), ((),),
             (("a", "b"),), (((),),), ((("a",),),), ("w",) * 21, ("x" * 101,), (("y" * 2001,),), ("a", None), (1,), (["a"],),
             ["a"], "a", (b"a",), ("\u00e9",), (("\u00e9",),), (True,), (None,), ((None,),)]

    def test_is_line(self):
        for line in self.RIGHT:
            self.assertIs(is_line(line), True, line)
        for value in self.WRONG + [value for value in ODD_VALUES if value != ("A", "B")]:
            self.assertIs(is_line(value), value in (("error",), (("x",),)), value)
        self.assertIs(is_line(value=("a",)), True)

    def test_there_and_back(self):
        for line in self.RIGHT:
            written = line_text(line)
            self.assertNotIn("\n", written)
            self.assertEqual(line_of(written), line)

    def test_written_forms(self):
        self.assertEqual(line_text(line=("a", ("b",))), 'a "b"')
        self.assertEqual(line_text((("",),)), '""')
        self.assertEqual(line_text((('"',), ("\\",), ("\n",), ("\\n",))), '"""" "\\\\" "\\n" "\\\\n"')

    def test_refused_lines(self):
        for value in self.WRONG:
            self.assertIs(caught(BadLine, line_text, value).given, value)

    def test_all_short_lines_there_and_back(self):
        items = [(text,) for size in range(4) for text in map("".join, itertools.product('a "\\\n', repeat=size))]
        for one, other in itertools.product(items, ["b", None]):
            line = (one,) if other is None else (one, other, one)
            self.assertEqual(line_of(line_text(line)), line)


class Reading(unittest.TestCase):
    def test_all_short_texts(self):
        for size in range(6):
            for text in map("".join, itertools.product('an "\\' + "\n" + PERCENT, repeat=size)):
                if WRITTEN.fullmatch(text):
                    self.assertEqual(line_text(line_of(text)), text)
                else:
                    self.assertEqual(caught(BadLine, line_of, text).given, first_wrong(text), repr(text))

    def test_first_wrong_characters(self):
        wrong = {"": 0, " ": 0, "a ": 2, "x  y": 2, " a": 0, "a  ": 2, '"': 1, '"a': 2, '"a" ': 4, '"a"b': 3, '"a""': 4,
                 'a"b"': 1, '"\\': 2, '"\\a"': 2, '"\\N"': 2, "a\\b": 1, "a\nb": 1, '"a\nb"': 2, "a\tb": 1, '"\t"': 1,
                 "a" + PERCENT: 1, '"' + PERCENT + '"': 1, "\u00e9": 0, '"\u00e9"': 1, "\\n": 0, '"a" "': 5, '"""': 3,
                 '"a"\n': 3, '"a\x7f"': 2, "a\x00": 1}
        for text, at in wrong.items():
            self.assertEqual(caught(BadLine, line_of, text).given, at, repr(text))

    def test_greatest_lengths_and_one_more(self):
        self.assertEqual(line_of("a" * 100), ("a" * 100,))
        self.assertEqual(caught(BadLine, line_of, "a" * 101).given, 100)
        self.assertEqual(caught(BadLine, line_of, "b " + "a" * 101 + " c").given, 102)
        self.assertEqual(line_of('"' + "a" * 2000 + '"'), (("a" * 2000,),))
        self.assertEqual(caught(BadLine, line_of, '"' + "a" * 2001 + '"').given, 2001)
        self.assertEqual(caught(BadLine, line_of, '"' + "a" * 2000).given, 2001)
        for sign in ("\\n", "\\\\", '""'):
            self.assertEqual(len(line_of('"' + sign * 2000 + '"')[0][0]), 2000)
        self.assertEqual(caught(BadLine, line_of, '"' + "\\n" * 2001 + '"').given, 4001)
        self.assertEqual(caught(BadLine, line_of, '"' + "\\\\" * 2001 + '"').given, 4001)
        # The first quote of the pair ends the text, so it is the second one that cannot stand.
        self.assertEqual(caught(BadLine, line_of, '"' + '""' * 2001 + '"').given, 4002)

    def test_twenty_items_and_one_more(self):
        self.assertEqual(line_of(" ".join(["a"] * 20)), ("a",) * 20)
        self.assertEqual(caught(BadLine, line_of, " ".join(["a"] * 21)).given, 39)
        self.assertEqual(caught(BadLine, line_of, '"" ' * 20 + "b").given, 59)
        self.assertEqual(caught(BadLine, line_of, "a " * 20).given, 39)
        self.assertEqual(caught(BadLine, line_of, "a " * 19).given, 38)

    def test_what_is_no_string(self):
        for value in OTHER_KINDS:
            self.assertIsNone(caught(BadLine, line_of, value).given)
            self.assertIsNone(caught(BadLine, lines_of, value).given)
        self.assertEqual(line_of(text="a"), ("a",))


class ManyLines(unittest.TestCase):
    def test_written_row_by_row(self):
        self.assertEqual(lines_text([]), "")
        self.assertEqual(lines_text(()), "")
        self.assertEqual(lines_text([("a",), (("b\nc",), "d")]), 'a\n"b\\nc" d')
        self.assertEqual(lines_text(lines=(("a",),) * 3), "a\na\na")

    def test_refused(self):
        self.assertEqual(caught(BadLine, lines_text, [("a",), ("b c",), ()]).given, 1)
        self.assertEqual(caught(BadLine, lines_text, ((), ("a",))).given, 0)
        self.assertEqual(caught(BadLine, lines_text, [("a",)] * 5 + [None]).given, 5)
        for value in ODD_VALUES:
            if not isinstance(value, (list, tuple)):
                self.assertIsNone(caught(BadLine, lines_text, value).given)

    def test_read_row_by_row(self):
        self.assertEqual(lines_of('a\n\nb  c\n"x y" z\n"'), [("a",), None, None, (("x y",), "z"), None])
        self.assertEqual(lines_of(""), [None])
        self.assertEqual(lines_of(text="a\n"), [("a",), None])
        self.assertEqual(lines_of("a\r\nb"), [None, ("b",)])
        self.assertEqual(lines_of("a\x0bb\nc\u2028d"), [None, None])

    def test_there_and_back_and_what_is_passed_stays(self):
        lines = [("a", ("b",)), (("\n\n",),), ("c",)]
        self.assertEqual(lines_of(lines_text(lines)), lines)
        self.assertEqual(lines, [("a", ("b",)), (("\n\n",),), ("c",)])


class Examples(unittest.TestCase):
    def test_of_the_document(self):
        self.assertEqual(line_text(("sheet", "1", ('a "b"\n\\',), "r3")), 'sheet 1 "a ""b""\\n\\\\" r3')
        self.assertEqual(line_of('x "a" b'), ("x", ("a",), "b"))
        self.assertEqual(caught(BadLine, line_of, "x  y").given, 2)


if __name__ == "__main__":
    unittest.main()
