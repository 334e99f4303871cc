"""[8], [9]: names of sheets and words of names."""

import itertools
import re
import unittest

from gridfile.words import is_name_word, is_sheet_name
from support import ODD_VALUES

OTHER_KINDS = [value for value in ODD_VALUES if not isinstance(value, str)]


class SheetNames(unittest.TestCase):
    def test_ordinary_names(self):
        for name in ("a", "Data", "My sheet", "1", "TRUE", "A1", "x" * 31, "a" + " " * 29 + "b", "#!$&()+,-.;<=>@^_`{|}~"):
            self.assertIs(is_sheet_name(name), True, name)

    def test_lengths(self):
        self.assertIs(is_sheet_name(""), False)
        self.assertIs(is_sheet_name("x" * 32), False)
        self.assertIs(is_sheet_name("x" * 10 ** 6), False)

    def test_each_sign_alone_and_inside(self):
        for code in list(range(0, 300)) + [0x660, 0x2028, 0xfeff, 0xd800, 0x1f600]:
            sign = chr(code)
            allowed = 32 <= code <= 126 and sign not in "%:\\/?*[]'\""
            self.assertIs(is_sheet_name("a" + sign + "b"), allowed, code)
            self.assertIs(is_sheet_name(sign), allowed and sign != " ", code)

    def test_spaces_at_the_ends(self):
        for name in (" ", "  ", " a", "a ", " a "):
            self.assertIs(is_sheet_name(name), False, name)

    def test_values_of_other_kinds(self):
        for value in OTHER_KINDS:
            self.assertIs(is_sheet_name(value), False)
        self.assertIs(is_sheet_name(value=["a"]), False)


class NameWords(unittest.TestCase):
    def test_ordinary_words(self):
        for word in ("a", "rate", "Tax_2024", "_", "_1", "__", "A_1", "A1B", "A1B2", "RCC", "RR", "CR", "CR1", "R1C1x",
                     "RC1R", "TRUES", "TRUE_", "_FALSE", "x" * 20, "ABCD", "R_", "C_1"):
            expected = not re.fullmatch(r"[A-Za-z]+[0-9]+", word)
            self.assertIs(is_name_word(word), expected, word)

    def test_lengths(self):
        self.assertIs(is_name_word(""), False)
        self.assertIs(is_name_word("x" * 20), True)
        self.assertIs(is_name_word("x" * 21), False)

    def test_each_sign(self):
        for code in list(range(0, 300)) + [0x660, 0x2028, 0x131, 0x17f, 0x212a, 0xd800]:
            sign = chr(code)
            allowed = re.fullmatch("[A-Za-z0-9_]", sign) is not None
            self.assertIs(is_name_word("a_" + sign), allowed, code)
            self.assertIs(is_name_word(sign + "_a"), allowed and not "0" <= sign <= "9", code)

    def test_forbidden_looks_in_any_case_of_letters(self):
        looks = ["true", "false", "a1", "ab12", "abc9999", "x0", "q00", "abcdefghij1234567890", "r", "c", "rc", "r1", "c1",
                 "r1c", "rc1", "r1c1", "r99999c0", "r0c00"]
        for look in looks:
            for cases in itertools.product(*[{sign.lower(), sign.upper()} for sign in look[:6]]):
                word = "".join(cases) + look[6:]
                self.assertIs(is_name_word(word), False, word)

    def test_all_short_words(self):
        wrong = re.compile(r"(?i)true|false|[a-z]+[0-9]+|r[0-9]*|c[0-9]*|r[0-9]*c[0-9]*|[0-9].*")
        for size in range(1, 6):
            for signs in itertools.product("RcX1_", repeat=size):
                word = "".join(signs)
                self.assertIs(is_name_word(word), wrong.fullmatch(word) is None, word)

    def test_values_of_other_kinds(self):
        for value in OTHER_KINDS:
            self.assertIs(is_name_word(value), False)
        self.assertIs(is_name_word(value=None), False)


if __name__ == "__main__":
    unittest.main()
