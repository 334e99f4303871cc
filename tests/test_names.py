"""[10], [11], [12] and gridfile/names.py: meanings, uses, orders and rings of names."""

import itertools
import random
import time
import unittest

from gridfile.errors import BadBook, BadNames, BadTree, BadWord, NoName, NoSheet, RingOfNames, TooMuch
from gridfile.model import Book, Sheet
from gridfile.names import meaning_of, order_of, ring_of, users_of, uses_of, with_name, without_name
from gridfile.values import PLAIN
from support import ODD_VALUES, caught

ONE = ("number", 1)
FIXED = (1, 1, True, True)
WRONG_SCOPES = ["data", "", "Other", 0, 1, True, ("Data",), ["Data"], {}, b"Data", object()]


def use(*words):
    return ("call", "F", tuple(("name", word) for word in words))


def cell(row, column, tree):
    return ((row, column), None, tree, PLAIN)


# In each scope other names; those of Data hide book-wide ones.
NAMES = ((None, "base", ONE), (None, "rate", use("base", "only", "nothing")), (None, "top", use("rate", "rate", "base")),
         ("Data", "base", use("top")), ("Data", "only", use("rate", "base")), ("More", "rate", ("text", "x")),
         ("More", "sum", use("top", "rate", "only", "base")))
SHEETS = (Sheet("Data", cells=[cell(1, 1, use("rate")), cell(1, 2, ("op", "+", ("name", "base"), ("name", "rate"))),
                               cell(2, 1, ("call", "rate".upper(), ())), cell(2, 2, None or ("text", "rate"))]),
          Sheet("More", cells=[cell(1, 1, use("rate")), cell(3, 1, ("minus", ("name", "base"))), cell(3, 2, use("Rate"))]),
          Sheet("Last", cells=[cell(9, 9, use("x_", "rate")), ((9, 10), "rate", None, PLAIN)]))
BOOK = Book(SHEETS, names=NAMES)


def meaning(names, scope, word):
    """By the words of [10]."""
    pairs = {name[:2] for name in names}
    return (scope, word) if (scope, word) in pairs else (None, word) if (None, word) in pairs else None


def uses_by_hand(names, name):
    return {meaning(names, name[0], inner[1]) for inner in name[2][2]} - {None}


class Meanings(unittest.TestCase):
    def test_in_three_scopes(self):
        told = {(None, "base"): (None, "base"), ("Data", "base"): ("Data", "base"), ("More", "base"): (None, "base"),
                ("Last", "base"): (None, "base"), (None, "only"): None, ("Data", "only"): ("Data", "only"),
                ("More", "only"): None, (None, "rate"): (None, "rate"), ("More", "rate"): ("More", "rate"),
                ("Data", "rate"): (None, "rate"), ("Data", "Rate"): None, (None, "sum"): None, ("More", "sum"): ("More", "sum")}
        for (scope, word), expected in told.items():
            self.assertEqual(meaning_of(BOOK, scope, word), expected)
            self.assertEqual(meaning_of(book=BOOK, scope=scope, word=word), expected)

    def test_words_of_any_kind_mean_nothing(self):
        for value in ODD_VALUES:
            self.assertIsNone(meaning_of(BOOK, None, value))
            self.assertIsNone(meaning_of(BOOK, "Data", value))

    def test_refused_books_and_scopes(self):
        for value in (*ODD_VALUES, SHEETS[0], Book):
            self.assertIs(caught(BadBook, meaning_of, value, "Other", "x").given, value)
        for value in WRONG_SCOPES:
            self.assertIs(caught(NoSheet, meaning_of, BOOK, value, "base").given, value)


class Uses(unittest.TestCase):
    def test_by_their_words(self):
        told = {(None, "base"): (), (None, "rate"): ((None, "base"),), (None, "top"): ((None, "base"), (None, "rate")),
                ("Data", "base"): ((None, "top"),), ("Data", "only"): (("Data", "base"), (None, "rate")), ("More", "rate"): (),
                ("More", "sum"): ((None, "base"), ("More", "rate"), (None, "top"))}
        for (scope, word), expected in told.items():
            self.assertEqual(uses_of(BOOK, scope, word), expected)
        self.assertEqual(uses_of(book=BOOK, scope=None, word="top"), ((None, "base"), (None, "rate")))

    def test_users(self):
        self.assertEqual(users_of(BOOK, None, "rate"), [("name", None, "top"), ("name", "Data", "only"), ("cell", "Data", (1, 1)),
                                                        ("cell", "Data", (1, 2)), ("cell", "Last", (9, 9))])
        self.assertEqual(users_of(BOOK, "More", "rate"), [("name", "More", "sum"), ("cell", "More", (1, 1))])
        self.assertEqual(users_of(BOOK, None, "base"), [("name", None, "rate"), ("name", None, "top"), ("name", "More", "sum"),
                                                        ("cell", "More", (3, 1))])
        self.assertEqual(users_of(BOOK, "Data", "base"), [("name", "Data", "only"), ("cell", "Data", (1, 2))])
        self.assertEqual(users_of(book=BOOK, scope="More", word="sum"), [])

    def test_refusals_in_their_order(self):
        for call in (uses_of, users_of, without_name):
            for value in (*ODD_VALUES, SHEETS[0]):
                self.assertIs(caught(BadBook, call, value, "Other", "x").given, value)
            for value in WRONG_SCOPES:
                self.assertIs(caught(NoSheet, call, BOOK, value, None).given, value)
            for scope, word in ((None, "only"), (None, "Base"), ("Data", "rate"), ("Last", "base"), ("Data", ""), (None, "x y")):
                self.assertEqual(caught(NoName, call, BOOK, scope, word).given, (scope, word))
            for value in ODD_VALUES:
                told = caught(NoName, call, BOOK, "Data", value).given
                self.assertEqual((type(told), len(told), told[0]), (tuple, 2, "Data"))
                self.assertIs(told[1], value)


class Orders(unittest.TestCase):
    def least(self, names):
        taken = []
        while len(taken) < len(names):
            taken.append(next(name[:2] for name in names
                              if name[:2] not in taken and uses_by_hand(names, name) <= set(taken)))
        return tuple(taken)

    def test_the_least_one(self):
        self.assertEqual(order_of(BOOK), ((None, "base"), (None, "rate"), (None, "top"), ("Data", "base"), ("Data", "only"),
                                          ("More", "rate"), ("More", "sum")))
        book = Book([Sheet("s")], names=[(None, "a", use("d")), (None, "b", use("a")), (None, "cc", ONE), (None, "d", ONE),
                                         ("s", "a", use("b", "d"))])
        self.assertEqual(order_of(book=book), ((None, "cc"), (None, "d"), (None, "a"), (None, "b"), ("s", "a")))
        self.assertEqual(order_of(Book([Sheet("s")])), ())

    def test_random_books(self):
        chance = random.Random(5)
        words = [f"w_{number}" for number in range(7)]
        for _ in range(200):
            names = []
            for scope in (None, "Data", "More"):
                rank = chance.sample(words, 7)
                for word in sorted(chance.sample(words, chance.randrange(8))):
                    names.append((scope, word, use(*[inner for inner in rank[:rank.index(word)] if chance.random() < 0.4])))
            book = Book(SHEETS, names=names)
            self.assertEqual(order_of(book), self.least(book.names))
            for name in names:
                self.assertEqual(uses_of(book, *name[:2]), tuple(sorted(uses_by_hand(names, name), key=lambda pair: pair[1])))

    def test_what_is_no_book(self):
        for value in (*ODD_VALUES, SHEETS[0]):
            self.assertIs(caught(BadBook, order_of, value).given, value)

    def test_two_hundred_names(self):
        words = [f"n_{number:03}" for number in range(200)]
        names = [(None, word, use(words[at + 1])) for at, word in enumerate(words[:-1])] + [(None, words[-1], ONE)]
        self.assertEqual(order_of(Book(SHEETS, names=names)), tuple((None, word) for word in words[::-1]))


class Rings(unittest.TestCase):
    def first_ring(self, names):
        """By all ways, for few names."""
        for many in range(1, len(names) + 1):
            some = names[:many]
            trees = {name[:2]: name for name in some}
            closing = some[-1][:2]
            found = []
            for size in range(1, many + 1):
                for rest in itertools.permutations([pair for pair in trees if pair != closing], size - 1):
                    ring = (closing, *rest)
                    if all(following in uses_by_hand(some, trees[pair])
                           for pair, following in zip(ring, ring[1:] + ring[:1])):
                        found.append((size, [word for _, word in ring], ring))
            if found:
                return min(found)[2]
        return None

    def test_short_ones(self):
        self.assertIsNone(ring_of([]))
        self.assertIsNone(ring_of(()))
        self.assertEqual(ring_of([(None, "a", use("a"))]), ((None, "a"),))
        self.assertEqual(ring_of(names=[("s", "a", use("b")), ("s", "b", use("a"))]), (("s", "b"), ("s", "a")))
        self.assertEqual(ring_of([("s", "b", use("a")), ("s", "a", use("b"))]), (("s", "a"), ("s", "b")))
        self.assertIsNone(ring_of([("s", "a", use("b")), ("t", "b", use("a"))]))
        self.assertIsNone(ring_of([("s", "a", use("b")), (None, "b", use("a"))]))

    def test_the_first_name_that_closes_one(self):
        names = [(None, "d", use("e")), (None, "a", use("b")), (None, "e", use("d")), (None, "b", use("a", "b"))]
        self.assertEqual(ring_of(names), ((None, "e"), (None, "d")))
        self.assertEqual(ring_of([names[0], names[1], names[3], names[2]]), ((None, "b"),))

    def test_the_shortest_one_and_then_by_words(self):
        names = [(None, "a", use("z")), (None, "b", use("cc")), (None, "cc", use("z")), (None, "d", use("z")),
                 (None, "e", use("d", "a"))]
        self.assertEqual(ring_of([*names, (None, "z", use("b", "e"))]), ((None, "z"), (None, "b"), (None, "cc")))
        self.assertEqual(ring_of([*names, (None, "z", use("e"))]), ((None, "z"), (None, "e"), (None, "a")))
        self.assertEqual(ring_of([*names, (None, "z", use("b", "d", "e"))]), ((None, "z"), (None, "d")))
        self.assertEqual(ring_of([*names, (None, "z", use("d", "a", "z"))]), ((None, "z"),))

    def test_capitals_come_before_small_letters(self):
        names = [(None, "a", use("z")), (None, "B", use("z")), (None, "z", use("a", "B"))]
        self.assertEqual(ring_of(names), ((None, "z"), (None, "B")))

    def test_a_name_of_a_sheet_that_comes_later_changes_meanings(self):
        names = [("s", "a", use("b")), (None, "b", ONE), (None, "a", use("b")), ("s", "b", use("a"))]
        self.assertEqual(ring_of(names), (("s", "b"), ("s", "a")))

    def test_all_orders_of_few_names(self):
        chance = random.Random(11)
        found = {True: 0, False: 0}
        for _ in range(400):
            pairs = chance.sample(list(itertools.product((None, "s", "T 1"), ("a", "b", "cc", "D"))), chance.randrange(1, 7))
            names = [(*pair, use(*[word for word in ("a", "b", "cc", "D") if chance.random() < 0.35])) for pair in pairs]
            expected = self.first_ring(names)
            self.assertEqual(ring_of(names), expected)
            self.assertEqual(ring_of(tuple(names)), expected)
            found[expected is None] += 1
        self.assertGreater(min(found.values()), 50)

    def test_what_is_no_row_of_names(self):
        for value in ODD_VALUES:
            if not isinstance(value, (list, tuple)):
                self.assertIsNone(caught(BadNames, ring_of, value).at)
        first = ("s", "a", use("a"))
        wrong = [None, 5, (), ("s", "b"), ["s", "b", ONE], ("s", "b", ONE, ONE), ("", "b", ONE), (1, "b", ONE), (["s"], "b", ONE),
                 ("a/b", "b", ONE), ("s", "b1", ONE), ("s", "", ONE), ("s", None, ONE), ("s", "b", None), ("s", "a", ONE),
                 ("s", "b", ("cell", "s", (1, 1, True, False))), (None, "b", ("cell", None, FIXED)), first, *ODD_VALUES]
        for value in wrong:
            self.assertEqual(caught(BadNames, ring_of, [first, ("s", "cc", ONE), value, None]).at, 2)
        self.assertIsNone(ring_of([("s", "b", ("cell", None, FIXED)), ("S", "b", ONE), (None, "b", ("cell", "q", FIXED))]))

    def test_two_hundred_and_one_more(self):
        words = [f"n_{number:03}" for number in range(201)]
        names = [("s", word, use(words[(at + 1) if at < 199 else 0])) for at, word in enumerate(words)]
        ring = ring_of(names[:200])
        self.assertEqual((len(ring), ring[:2]), (200, (("s", "n_199"), ("s", "n_000"))))
        self.assertEqual(caught(BadNames, ring_of, names).at, 200)

    def test_many_uses_take_a_short_time(self):
        words = [f"n_{number:03}" for number in range(200)]
        names = [("s", word, ("op", "&", use(*words[max(0, at - 29):at]), use(*words[max(0, at - 58):max(0, at - 29)])))
                 for at, word in enumerate(words)]
        began = time.monotonic()
        self.assertIsNone(ring_of(names))
        self.assertEqual(len(ring_of(names[::-1][:100] + [("s", "n_099", use("n_199"))])), 3)
        self.assertLess(time.monotonic() - began, 5)


class WithName(unittest.TestCase):
    def test_new_ones_stand_in_their_order(self):
        book = Book(SHEETS)
        for scope, word in (("More", "b"), (None, "z"), ("Data", "q"), (None, "a"), ("More", "a"), ("Last", "B"), ("Last", "a"),
                            ("Data", "_")):
            book = with_name(book=book, scope=scope, word=word, tree=ONE)
            self.assertIs(book.is_same(Book(SHEETS, names=book.names)), True)
        self.assertEqual([name[:2] for name in book.names], [(None, "a"), (None, "z"), ("Data", "_"), ("Data", "q"), ("More", "a"),
                                                             ("More", "b"), ("Last", "B"), ("Last", "a")])

    def test_instead_of_the_old_one(self):
        book = with_name(BOOK, None, "top", ("cell", "Data", FIXED))
        self.assertEqual([name[:2] for name in book.names], [name[:2] for name in NAMES])
        self.assertEqual(book.names[2], (None, "top", ("cell", "Data", FIXED)))
        self.assertEqual(BOOK.names, NAMES)
        book = with_name(BOOK.changed(active=2), "More", "rate", use("base"))
        self.assertEqual((book.active, book.sheets, uses_of(book, "More", "rate")), (2, SHEETS, ((None, "base"),)))

    def test_refusals_in_their_order(self):
        for value in (*ODD_VALUES, SHEETS[0]):
            self.assertIs(caught(BadBook, with_name, value, "Other", "", None).given, value)
        for value in WRONG_SCOPES:
            self.assertIs(caught(NoSheet, with_name, BOOK, value, "", None).given, value)
        for value in ("", "A1", "true", "R1C1", "x y", "x" * 21, *[value for value in ODD_VALUES if not isinstance(value, str)]):
            self.assertIs(caught(BadWord, with_name, BOOK, "Data", value, None).given, value)
        for value in (None, (), ("number", -1), ("rcell", "Data", FIXED), ("cell", "Data", (1, 1, True, False)),
                      ("minus", ("range", "Data", FIXED, (1, 1, False, True)))):
            self.assertIs(caught(BadTree, with_name, BOOK, None, "x", value).given, value)
            self.assertIs(caught(BadTree, with_name, BOOK, "Data", "x", value).given, value)
        for value in (("cell", None, FIXED), ("range", None, FIXED, FIXED)):
            self.assertIs(caught(BadTree, with_name, BOOK, None, "base", value).given, value)
            self.assertEqual(with_name(BOOK, "Data", "base", value).names[3], ("Data", "base", value))

    def test_two_hundred_names(self):
        book = Book(SHEETS, names=[(None, f"n_{number:03}", ONE) for number in range(200)])
        self.assertEqual(caught(TooMuch, with_name, book, None, "new", use("new")).most, 200)
        self.assertEqual(caught(TooMuch, with_name, book, "Data", "n_000", ONE).most, 200)
        self.assertIsInstance(caught(BadTree, with_name, book, None, "new", None), BadTree)
        self.assertEqual(with_name(book, None, "n_005", use("n_006")).names[5][2], use("n_006"))
        self.assertEqual(caught(RingOfNames, with_name, book, None, "n_005", use("n_005")).ring, ((None, "n_005"),))

    def test_rings(self):
        self.assertEqual(caught(RingOfNames, with_name, BOOK, None, "new", use("new")).ring, ((None, "new"),))
        self.assertEqual(caught(RingOfNames, with_name, BOOK, None, "base", use("top")).ring,
                         ((None, "base"), (None, "top")))
        self.assertEqual(caught(RingOfNames, with_name, BOOK, None, "base", use("rate", "top")).ring,
                         ((None, "base"), (None, "rate")))
        self.assertEqual(caught(RingOfNames, with_name, BOOK, "Data", "rate", use("only")).ring,
                         (("Data", "rate"), ("Data", "only")))
        # Behind this definition the word only means the new name, so the book-wide rate still does not use it.
        self.assertEqual(with_name(BOOK, None, "only", ONE).names[1][1], "only")
        self.assertEqual(caught(RingOfNames, with_name, BOOK, None, "only", use("top")).ring,
                         ((None, "only"), (None, "top"), (None, "rate")))
        self.assertEqual(with_name(BOOK, "Data", "top", use("rate")).names[5], ("Data", "top", use("rate")))
        self.assertEqual(caught(RingOfNames, with_name, BOOK, "Data", "top", use("only")).ring,
                         (("Data", "top"), ("Data", "only"), ("Data", "base")))
        self.assertEqual(BOOK.names, NAMES)

    def test_the_old_uses_of_a_name_close_no_ring(self):
        book = Book(SHEETS, names=[(None, "a", use("b")), (None, "b", ONE)])
        self.assertEqual(caught(RingOfNames, with_name, book, None, "b", use("a")).ring, ((None, "b"), (None, "a")))
        turned = with_name(with_name(book, None, "a", ONE), None, "b", use("a"))
        self.assertEqual(turned.names, ((None, "a", ONE), (None, "b", use("a"))))

    def test_random_rows_of_definitions(self):
        chance = random.Random(9)
        words = ["a", "b", "cc", "d"]
        refused = 0
        book = Book(SHEETS)
        for _ in range(600):
            scope, word = chance.choice([None, "Data", "More"]), chance.choice(words)
            tree = use(*[inner for inner in words if chance.random() < 0.3])
            others = [name for name in book.names if name[:2] != (scope, word)]
            ring = ring_of([*others, (scope, word, tree)])
            if ring is not None:
                refused += 1
                self.assertEqual(caught(RingOfNames, with_name, book, scope, word, tree).ring, ring)
                self.assertEqual(ring[0], (scope, word))
            else:
                book = with_name(book, scope, word, tree)
                self.assertIs(book.is_same(Book(SHEETS, names=book.names)), True)
            if book.names and chance.random() < 0.2:
                gone = chance.choice(book.names)[:2]
                book = without_name(book, *gone)
                self.assertNotIn(gone, [name[:2] for name in book.names])
                self.assertIs(book.is_same(Book(SHEETS, names=book.names)), True)
        self.assertGreater(refused, 50)


class WithoutName(unittest.TestCase):
    def test_the_others_stay(self):
        for name in NAMES:
            book = without_name(BOOK, *name[:2])
            self.assertEqual(book.names, tuple(other for other in NAMES if other != name))
            self.assertEqual(book.sheets, SHEETS)
        self.assertEqual(without_name(book=BOOK, scope="Data", word="only").names[3:5], (NAMES[3], NAMES[5]))
        self.assertEqual(BOOK.names, NAMES)

    def test_its_users_use_the_book_wide_one(self):
        book = without_name(BOOK, "Data", "base")
        self.assertEqual(meaning_of(book, "Data", "base"), (None, "base"))
        self.assertEqual(uses_of(book, "Data", "only"), ((None, "base"), (None, "rate")))
        self.assertIn(("cell", "Data", (1, 2)), users_of(book, None, "base"))


if __name__ == "__main__":
    unittest.main()
