"""[13] to [16] and gridfile/formulas.py: trees printed and formulas read."""

import itertools
import random
import re
import unittest

from gridfile.errors import BadFormula, BadTree, NoPart
from gridfile.formulas import (is_formula, needless, normal, pairs, print_formula, read_formula, tokens, without_pair)
from gridfile.trees import is_tree, weight
from support import ODD_VALUES, SIGNS, caught, random_tree

ONE, TWO, THREE = ("number", 1), ("number", 2), ("number", 3)
NAME = ("name", "rate")
A1 = (1, 1, False, False)
B2 = (2, 2, False, False)
CELL = ("cell", None, A1)
LEVELS = {"=": 1, "<>": 1, "<": 1, "<=": 1, ">": 1, ">=": 1, "&": 2, "+": 3, "-": 3, "*": 4, "/": 4, "^": 5}
# Printed texts, and the trees that they are.
PRINTED = {
    "=0": ("number", 0), "=1000000000000000": ("number", 10 ** 15), '=""': ("text", ""), '="a"': ("text", "a"),
    '=""""': ("text", '"'), '="a ""b"""': ("text", 'a "b"'), '="a\nb\\"': ("text", "a\nb\\"), "=TRUE": ("truth", True),
    "=FALSE": ("truth", False), "=#NAME?": ("error", "NAME"), "=#VALUE!": ("error", "VALUE"), "=#DIV/0!": ("error", "DIV"),
    "=#REF!": ("lost",), "=A1": CELL, "=$A1": ("cell", None, (1, 1, False, True)), "=A$1": ("cell", None, (1, 1, True, False)),
    "=$ZZ$9999": ("cell", None, (9999, 702, True, True)), "=A1:A1": ("range", None, A1, A1), "=B2:A1": ("range", None, B2, A1),
    "=$A1:B$2": ("range", None, (1, 1, False, True), (2, 2, True, False)), "=Data!A1": ("cell", "Data", A1),
    "=_!A1": ("cell", "_", A1), "=rate_2!A1:B2": ("range", "rate_2", A1, B2), "='a b'!A1": ("cell", "a b", A1),
    "='A1'!A1": ("cell", "A1", A1), "='Sheet1'!B2:A1": ("range", "Sheet1", B2, A1), "='TRUE'!A1": ("cell", "TRUE", A1),
    "='r1c1'!A1": ("cell", "r1c1", A1), "='1a'!A1": ("cell", "1a", A1), "='&'!A1": ("cell", "&", A1),
    "='" + "x" * 21 + "'!A1": ("cell", "x" * 21, A1), "=" + "x" * 20 + "!A1": ("cell", "x" * 20, A1),
    "='" + "~" * 31 + "'!A1": ("cell", "~" * 31, A1), "=rate": NAME, "=_": ("name", "_"), "=TRUE_": ("name", "TRUE_"),
    "=A1B": ("name", "A1B"), "=A_1": ("name", "A_1"), "=RCx": ("name", "RCx"), "=" + "x" * 20: ("name", "x" * 20),
    "=F()": ("call", "F", ()), "=SUM(1)": ("call", "SUM", (ONE,)), "=A1(1,2)": ("call", "A1", (ONE, TWO)),
    "=TRUE(F())": ("call", "TRUE", (("call", "F", ()),)), "=" + "X" * 20 + "()": ("call", "X" * 20, ()),
    "=F(1,(1+2)*3,-1)": ("call", "F", (ONE, ("op", "*", ("op", "+", ONE, TWO), THREE), ("minus", ONE))),
    "=F(" + ",".join("1" * 30) + ")": ("call", "F", (ONE,) * 30), "=--1": ("minus", ("minus", ONE)),
    "=-A1^2": ("op", "^", ("minus", CELL), TWO), "=-(A1^2)": ("minus", ("op", "^", CELL, TWO)),
    "=2^-1": ("op", "^", TWO, ("minus", ONE)), "=2^-1^3": ("op", "^", ("op", "^", TWO, ("minus", ONE)), THREE),
    "=2^(1^3)": ("op", "^", TWO, ("op", "^", ONE, THREE)), "=-(-1+2)": ("minus", ("op", "+", ("minus", ONE), TWO)),
    "=1-(2-3)": ("op", "-", ONE, ("op", "-", TWO, THREE)), "=1-2-3": ("op", "-", ("op", "-", ONE, TWO), THREE),
    "=1=2<>3": ("op", "<>", ("op", "=", ONE, TWO), THREE), "=1<=-2": ("op", "<=", ONE, ("minus", TWO)),
    "=1&2+3*1^2": ("op", "&", ONE, ("op", "+", TWO, ("op", "*", THREE, ("op", "^", ONE, TWO)))),
    "=1^2*3+1&2=3": ("op", "=", ("op", "&", ("op", "+", ("op", "*", ("op", "^", ONE, TWO), THREE), ONE), TWO), THREE),
}
# Texts that are read, and how they are printed.
READ = {
    "=  1": "=1", "=1  ": "=1", "= 1 + 2 ": "=1+2", "=007": "=7", "=" + "0" * 1999: "=0",
    "=" + "0" * 1983 + "1000000000000000": "=1000000000000000", "= ( 1 ) ": "=1", "=((1))": "=1", "=(A1)": "=A1",
    "=(rate)": "=rate", "=F( )": "=F()", "=F( 1 , 2 )": "=F(1,2)", "=F((1),((2)))": "=F(1,2)", "= Data ! A1 : B2 ": "=Data!A1:B2",
    "='Data'!A1": "=Data!A1", "= 'a b' ! $A1": "='a b'!$A1", "=A1 : B2": "=A1:B2", "=(-1)^2": "=-1^2", "=-(1)": "=-1",
    "=- - 1": "=--1", "=-(-1)": "=--1", "=2^(-1)": "=2^-1", "=(1*2)+3": "=1*2+3", "=1+(2*3)": "=1+2*3", "=(1+2)+3": "=1+2+3",
    "=1+(2+3)": "=1+(2+3)", "=(1<2)<3": "=1<2<3", "=1<>2": "=1<>2", "=1 < -2": "=1<-2", "=1- -2": "=1--2", '= "a" & "b"': '="a"&"b"',
    "=(1+2)*3": "=(1+2)*3", "=(1+(2*3)) - ( 4-'Data'!$B2:C$3)": "=1+2*3-(4-Data!$B2:C$3)", "=#REF! + #DIV/0!": "=#REF!+#DIV/0!",
    "=" + "(" * 30 + "1" + ")" * 30: "=1", "=TRUE&FALSE": "=TRUE&FALSE", "=A1(A1)": "=A1(A1)",
}
# Texts that are no formulas, and their places.
WRONG = {
    # It does not begin as a formula, or ends too early.
    "": 0, " =1": 0, "1": 0, "A1": 0, "'": 0, "=": 1, "=   ": 4, "=1+": 3, "=1+ ": 4, "=-": 2, "=(": 2, "=(1": 3, "=F(": 3, "=F(1": 4,
    "=F(1,": 5, "=A1:": 4, "=Data!": 6, "='Data'": 7, "='Data'!": 8, "=Data!A1:": 9, "=(1)+(2": 7,
    # A token that is wrong by itself.
    "=1000000000000001": 1, "=1+1000000000000001": 3, "=99999999999999999999": 1, "=a1": 1, "=A0": 1, "=A01": 1, "=A10000": 1,
    "=AAA1": 1, "=$AAA1": 1, "=A$0": 1, "=$A$00": 1, "=true": 1, "=True": 1, "=R": 1, "=C": 1, "=rc": 1, "=R1C1": 1, "=RC": 1,
    "=1+abc1": 3, "=" + "x" * 21: 1, "=''!A1": 1, "='a:b'!A1": 1, "=' a'!A1": 1, "='a '!A1": 1, "='" + "x" * 32 + "'!A1": 1,
    '=1+"' + "x" * 201 + '"': 3, '="a' + chr(37) + '"': 1, '="\t"': 1, "=abc1!A1": 1, "=Data!A10000": 6, "=A1:A0": 4,
    "=" + "X" * 21 + "()": 1, "='a\nb'!A1": 1,
    # One that cannot stand there.
    "=1 2": 3, "=1A": 2, "=A1 B2": 4, "=A1$B2": 3, "=$A1B2": 4, "=)": 1, "=()": 2, "=(1))": 4, "=+1": 1, "=1++2": 3, "=*1": 1, "=1=*2": 3,
    "=1><2": 3, "=1=<2": 3, "=1+)": 3, "=F(,": 3, "=F(1,)": 5, "=F(1,,2)": 5, "=F(1;2)": 4, "=1,2": 2, "=(1,2)": 3, "=F((1,2))": 5,
    "=sum(1)": 4, "=SUM (1)": 5, "=F()()": 4, "=rate(1)": 5, "=1(2)": 2, "=A1:B2:C3": 6, "=A1:rate": 4, "=A1:(B2)": 4,
    "=A1:Data!B2": 4, "=1:2": 2, "=rate:A1": 5, "=rate:rate": 5, "=(A1):B2": 5, "=A1:B2!C3": 6, "=A1!B2": 3, "=TRUE!A1": 5, "=1!A1": 2,
    "=Data!1": 6, "=Data!rate": 6, "=Data!F()": 6, "=Data!A1(": 6, "=Data!!A1": 6, "=Data!(A1)": 6, "=Data!#REF!": 6,
    "='Data'A1": 7, "='Data'+1": 7, "='Data' 'Data'": 8, "=Data!'Data'!A1": 6, "=!A1": 1, "=:A1": 1, "=,": 1, "=F(:A1)": 3,
    '="a""b" "c"': 8, '="a" "b"': 5, "=#REF!1": 6, "=TRUE FALSE": 6, "=1'a'!A1": 2, "=A1(1)(2)": 6, "=$A$1(1)": 5, "=(1)A1": 4,
    "=1-": 3, "=rate!A1!B2": 8, "=-)": 2, "=(-)": 3, "=F(-)": 4,
    # A character at which no token begins.
    "=1+#": 3, "=#NAME": 1, "=#name?": 1, "=#REF": 1, "=#N/A": 1, "=@": 1, "=1.5": 2, "=A$": 2, "=$": 1, "=$1": 1, "=A1$": 3, "=$a1": 1,
    "=A$B1": 2, "=1;": 2, "=[1]": 1, "={1}": 1, "=1|2": 2, "=1\n": 2, "=\t1": 1, "=1" + chr(37): 2, "=\\": 1, "=\u00e9": 1, "=1+\u00b2": 3,
    "=R[1]C": 1, "=A1.B2": 3, "=~1": 1, "=.5": 1, "=?": 1, "=A1%": 3, "=$$A1": 1, "=A$$1": 2,
    # Quotes that are not closed.
    '="': 2, '="abc': 5, '="abc""': 7, '="a""b': 6, '=1+"a b+': 8, '=F("a,1)': 8, '=1"a': 2, '=A1 "a': 4, '=Data!"a': 6, '=A1:"a': 4,
    '=("a"1"': 5, "='": 2, "='abc": 5, "=1+'a b": 7, "=1'a": 2, "=Data!'a": 6, "='a'!'b": 5, "=A1'b": 3, '="' + chr(37): 3,
    '="' + "x" * 300: 302, "='" + "x" * 40: 42, "='a:b": 5,
    # The first of several.
    "=A0+)": 1, "=1+)A0": 3, "=1 2 @": 3, "=@1 2": 1, "=a1 'b": 1, "=1)'b": 2,
    # Parentheses, and the trees of calls.
    "=" + "(" * 31 + "1" + ")" * 31: 31, "=" + "F(" * 31 + ")" * 31: 61, "=" + "(F(" * 15 + "(": 46, "=" + "(" * 30: 31,
    "=F(" + ",".join("1" * 31) + ")": 62, "=F(" + "1," * 29 + "F(" + "1," * 30: 122,
}


def place_of(text):
    return caught(BadFormula, read_formula, text).place


class Printing(unittest.TestCase):
    def test_each_sort_of_tree(self):
        for text, tree in PRINTED.items():
            self.assertEqual(print_formula(tree), text)
            self.assertEqual(read_formula(text), tree)
            self.assertEqual(print_formula(tree=tree), text)
            self.assertEqual(normal(text), text)
            self.assertEqual(needless(text), 0)
            self.assertTrue(is_formula(text))

    def test_each_sign_beside_each_other_on_both_sides(self):
        for outer, inner in itertools.product(SIGNS, SIGNS):
            lower, same = LEVELS[inner] < LEVELS[outer], LEVELS[inner] == LEVELS[outer]
            left = ("op", outer, ("op", inner, ONE, TWO), THREE)
            right = ("op", outer, ONE, ("op", inner, TWO, THREE))
            self.assertEqual(print_formula(left), f"=(1{inner}2){outer}3" if lower else f"=1{inner}2{outer}3")
            self.assertEqual(print_formula(right), f"=1{outer}(2{inner}3)" if lower or same else f"=1{outer}2{inner}3")
            for tree in (left, right):
                self.assertEqual(read_formula(print_formula(tree)), tree)

    def test_minus_beside_each_sign(self):
        for sign in SIGNS:
            trees = {f"=-1{sign}2": ("op", sign, ("minus", ONE), TWO), f"=1{sign}-2": ("op", sign, ONE, ("minus", TWO)),
                     f"=-(1{sign}2)": ("minus", ("op", sign, ONE, TWO)), f"=--1{sign}--2":
                     ("op", sign, ("minus", ("minus", ONE)), ("minus", ("minus", TWO)))}
            for text, tree in trees.items():
                self.assertEqual(print_formula(tree), text)
                self.assertEqual(read_formula(text), tree)

    def test_no_tree(self):
        for value in [*ODD_VALUES, ("rcell", None, (0, 0, False, False)), ("number", -1), ("name", "A1"), ("call", "F", [])]:
            self.assertEqual(caught(BadTree, print_formula, value).given, value)

    def test_random_trees_are_read_back_and_shorter_than_their_weights(self):
        chance = random.Random(5)
        many = 0
        for _ in range(1500):
            tree = random_tree(chance, chance.randint(1, 7))
            if is_tree(tree):
                many += 1
                text = print_formula(tree)
                self.assertEqual(read_formula(text), tree)
                self.assertLessEqual(len(text), weight(tree) + 1)
                self.assertEqual(needless(text), 0)
        self.assertGreater(many, 1000)

    def test_no_pair_of_a_printed_tree_can_go(self):
        chance = random.Random(6)
        many = 0
        for _ in range(400):
            tree = random_tree(chance, chance.randint(2, 6))
            if is_tree(tree):
                text = print_formula(tree)
                for number in range(len(pairs(text))):
                    many += 1
                    other = without_pair(text, number)
                    try:
                        self.assertNotEqual(read_formula(other), tree, text)
                    except BadTree:
                        pass
        self.assertGreater(many, 300)


class Reading(unittest.TestCase):
    def test_spaces_zeros_and_needless_pairs(self):
        for text, told in READ.items():
            self.assertEqual(normal(text), told)
            self.assertEqual(normal(text=text), told)
            self.assertTrue(is_formula(value=text))
            self.assertEqual(read_formula(text=text), read_formula(told))

    def test_places_of_wrong_texts(self):
        for text, place in WRONG.items():
            for call in (read_formula, normal, pairs, needless):
                self.assertEqual(caught(BadFormula, call, text).place, place, text)
            self.assertEqual(caught(BadFormula, without_pair, text, 0).place, place)
            self.assertIs(is_formula(text), False)

    def test_the_examples(self):
        self.assertEqual(read_formula("=-A1^2"), ("op", "^", ("minus", ("cell", None, (1, 1, False, False))), ("number", 2)))
        self.assertEqual(normal("=(1+(2*3)) - ( 4-'Data'!$B2:C$3)"), "=1+2*3-(4-Data!$B2:C$3)")
        self.assertEqual(normal(without_pair("=1-(2-3)", 0)), "=1-2-3")
        self.assertEqual(place_of("=SUM(A1;2)"), 7)

    def test_no_string(self):
        for value in ODD_VALUES:
            if not isinstance(value, str):
                for call in (read_formula, normal, pairs, needless, tokens):
                    self.assertIsNone(caught(BadFormula, call, value).place)
                self.assertIsNone(caught(BadFormula, without_pair, value, None).place)
                self.assertIs(is_formula(value), False)

    def test_2000_characters_and_one_more(self):
        longest = "=1" + " " * 1998
        self.assertEqual(read_formula(longest), ONE)
        self.assertEqual(tokens(longest), ["1"])
        for text in (longest + " ", "x" * 2001, "=" + "@" * 2000, '="' + "x" * 5000):
            for call in (read_formula, normal, pairs, needless, tokens):
                self.assertEqual(caught(BadFormula, call, text).place, 2000)
        self.assertEqual(place_of("x" * 2000), 0)

    def test_trees_that_are_too_deep_or_too_heavy(self):
        for text, inner in (("=" + "-" * 20 + "1", 20), ("=" + "-" * 1998 + "1", 1998), ("=" + "F(" * 20 + "1" + ")" * 20, 20)):
            for call in (read_formula, normal, pairs, needless):
                given = caught(BadTree, call, text).given
                many = 0
                while given != ONE:
                    given = given[1] if given[0] == "minus" else given[2][0]
                    many += 1
                self.assertEqual(many, inner)
            self.assertIs(is_formula(text), False)
            caught(BadTree, without_pair, text, 5)
        self.assertEqual(read_formula("=" + "-" * 19 + "1")[0], "minus")
        # 20 for each name and 22 + 30 for a call of thirty trees.
        inner = "F(" + ",".join(["a"] * 30) + ")"
        self.assertEqual(weight(read_formula("=" + "+".join([inner] * 2))), 1308)
        heavy = "=" + "+".join([inner] * 3) + "+F(A1,B2)"
        caught(BadTree, read_formula, "=" + "+".join([inner] * 4))
        self.assertEqual(weight(read_formula("=" + "+".join([inner] * 3))), 1964)
        caught(BadTree, read_formula, heavy)
        self.assertEqual(caught(BadTree, read_formula, "=" + "+".join("1" * 21)).given[0], "op")

    def test_what_leads_from_token_to_token(self):
        """Each text of few tokens is read just if a plain reduction reads it, and its place is the first dead end."""
        alphabet = ["1", "a", "A1", "-", "+", "(", ")", "F(", ",", ":", "!"]
        for many in range(1, 5):
            for found in itertools.product(alphabet, repeat=many):
                self.check_tokens(found)
        chance = random.Random(7)
        for _ in range(3000):
            self.check_tokens(chance.choices(alphabet, k=chance.randint(5, 9)))

    def check_tokens(self, found):
        text = "=" + " ".join(found)
        dead = next((at for at in range(len(found)) if not is_beginning(found[:at + 1])), None)
        if dead is not None:
            self.assertEqual(place_of(text), 1 + len(" ".join([*found[:dead], ""])), text)
        elif is_reduced(found):
            self.assertTrue(is_tree(read_formula(text)), text)
        else:
            self.assertEqual(place_of(text), len(text), text)


def is_reduced(found):
    """Whether tokens make a tree, by replacing again and again what is one by e."""
    text = " ".join(found) + " "
    text = re.sub(r"a ! A1 : A1 |a ! A1 |A1 : A1 |A1 |a |1 ", "e ", text)
    before = None
    while text != before:
        before = text
        text = re.sub(r"\( e \) |F\( (e (, e )*)?\) ", "e ", text)
        text = re.sub(r"(^|[-+,(] )- e ", r"\1e ", text)
        text = re.sub(r"e [-+] e ", "e ", text)
    return text == "e "


def is_beginning(found):
    """Whether tokens can be completed to a tree."""
    for middle in ([], ["1"], ["A1"], ["!", "A1"]):
        for closing in range(len(found) + 1):
            if is_reduced([*found, *middle, *[")"] * closing]):
                return True
    return False


class Tokens(unittest.TestCase):
    def test_each_as_long_as_it_can_be(self):
        told = {"=": [], "=  ": [], "=1": ["1"], "=007 8": ["007", "8"], '="a ""b"""&"c"': ['"a ""b"""', "&", '"c"'],
                "=#REF!#NAME?#VALUE!#DIV/0!": ["#REF!", "#NAME?", "#VALUE!", "#DIV/0!"], "=1<>2<=3>=4<5>6=7":
                ["1", "<>", "2", "<=", "3", ">=", "4", "<", "5", ">", "6", "=", "7"], "=><=<>": [">", "<=", "<>"],
                "=SUM(A1)": ["SUM(", "A1", ")"], "=sum(A1)": ["sum", "(", "A1", ")"], "=SUM (": ["SUM", "("], "=A1(": ["A1("],
                "=A1B(": ["A1B("], "=A_(": ["A_", "("], "=" + "X" * 20 + "(": ["X" * 20 + "("], "=" + "X" * 21 + "(": ["X" * 21, "("],
                "=$A$1(": ["$A$1", "("], "=A1$B2": ["A1", "$B2"], "=$A1B2": ["$A1", "B2"], "=AB$12_": ["AB$12", "_"],
                "=$A1x": ["$A1", "x"], "=A1x": ["A1x"], "=1A1": ["1", "A1"], "=AAA99999": ["AAA99999"], "=$AAA$00": ["$AAA$00"],
                "=a1:B2!'x y'": ["a1", ":", "B2", "!", "'x y'"], "='a:b''c'": ["'a:b'", "'c'"], "=+-*/^&,!:)(": list("+-*/^&,!:)("),
                "=TRUE(TRUE": ["TRUE(", "TRUE"], "=R1C1": ["R1C1"], '="\n\t\u00e9"': ['"\n\t\u00e9"'],
                "=''": ["''"], '=""': ['""'], "= a  b ": ["a", "b"]}
        for text, found in told.items():
            self.assertEqual(tokens(text), found)
            self.assertEqual(tokens(text=text), found)

    def test_wrong_texts(self):
        told = {"": 0, "1": 0, " =": 0, "=1@": 2, "=@'": 1, "=1 #REF": 3, "=A$": 2, "=\t": 1, "=1\n": 2, "=\u00e9": 1, "=1.5": 2,
                "=R[1]": 2, '="': 2, '=1 2)"abc': 9, '="a""b': 6, "=) 'abc": 7, "='": 2, '="@': 3, "='a\"": 4, "=$": 1, "=~": 1, "=$1": 1, "=1+$$1": 3, "=$a1": 1}
        for text, place in told.items():
            self.assertEqual(caught(BadFormula, tokens, text).place, place, text)

    def test_a_new_list_each_time(self):
        found = tokens("=1+2")
        found.append("x")
        self.assertEqual(tokens("=1+2"), ["1", "+", "2"])


class Pairs(unittest.TestCase):
    def test_those_of_calls_aside_ascending(self):
        told = {"=1": [], "=(1)": [(1, 3)], "=((1)+(2))": [(1, 9), (2, 4), (6, 8)], "=F((1),G())": [(3, 5)], '="("&(1)': [(5, 7)],
                "='('!A1+(2)": [(8, 10)], "= ( 1 ) ": [(2, 6)], "=(F(1))": [(1, 6)]}
        for text, found in told.items():
            self.assertEqual(pairs(text), found)
            self.assertEqual(pairs(text=text), found)

    def test_needless_ones(self):
        told = {"=1": 0, "=(1)": 1, "=((1))": 2, "=(1+2)*3": 0, "=((1+2))*(3)": 2, "=(1*2)+3": 1, "=1+(2+3)": 0, "=F((1),(2+3))": 2,
                "=-(-(1))": 2, "=(-1)^(-2)": 2, "=-(1^2)": 0, "=" + "(" * 30 + "1" + ")" * 30: 30}
        for text, many in told.items():
            self.assertEqual(needless(text), many)
            self.assertEqual(needless(text=text), many)

    def test_without_a_pair(self):
        self.assertEqual(without_pair("=1-(2-3)", 0), "=1- 2-3 ")
        self.assertEqual(without_pair(text="=((1)+(2))", number=1), "=( 1 +(2))")
        self.assertEqual(without_pair("=F((1))", 0), "=F( 1 )")
        self.assertEqual(normal(without_pair("=1-(2-3)", 0)), "=1-2-3")

    def test_numbers_that_no_pair_has(self):
        for text, many in (("=1", 0), ("=(1)", 1), ("=((1)+(2))", 3), ("=F()", 0)):
            for number in (-1, many, many + 1, True, False, None, "0", 0.0, [], (0,)):
                self.assertEqual(caught(NoPart, without_pair, text, number).path, (number,))
            for number in range(many):
                without_pair(text, number)
        self.assertEqual(caught(BadFormula, without_pair, "=(1", -1).place, 3)

    def test_taking_a_needless_pair_away_changes_nothing(self):
        text = "=((1)+(2*(3)))-((4))"
        trees = [read_formula(without_pair(text, number)) for number in range(len(pairs(text)))]
        self.assertEqual(set(trees), {read_formula(text)})
        self.assertEqual(needless(text), len(pairs(text)))


if __name__ == "__main__":
    unittest.main()
