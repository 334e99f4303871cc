"""[57] to [60] and gridfile/damage.py: things, taking them away, what lines carry, damage."""

import random
import unittest

from gridfile.canonical import is_canonical
from gridfile.damage import Carriers, Damage, damaged, taken, things_of, without_lines
from gridfile.errors import BadBook, BadFile, BadThings, NoLine
from gridfile.formulas import read_formula
from gridfile.model import Book, Sheet
from gridfile.names import with_name
from gridfile.reading import complaints, read
from gridfile.tables import PART_SORTS
from gridfile.values import PLAIN
from gridfile.writing import write
from support import ODD_VALUES, caught, random_book, remade

FULL = ("0.0", ("a", 10, False, False), 1, (1, 0, 0, 0), ("left", False))
BOLD = ("", ("Plain", 10, True, False), None, (0, 0, 0, 0), ("general", False))
RED = ("", ("Plain", 10, True, False), 255, (0, 0, 0, 0), ("general", False))


def a_book():
    data = Sheet("Data", frozen=(0, 1), hidden=True, columns=[(1, 5, True, FULL), (2, 5, False, PLAIN)], rows=[(3, None, True, PLAIN), (4, 0, False, BOLD), (5, 0, False, BOLD)],
                 cells=[((1, 1), "x", read_formula("=B1"), FULL), ((2, 1), False, read_formula("=B2"), PLAIN), ((3, 1), 0, None, RED), ((4, 1), None, None, BOLD), ((4, 2), "x", None, PLAIN)],
                 merges=[(8, 1, 9, 2), (8, 3, 8, 4)], links=[((1, 1), "t"), ((5, 5), "t"), ((6, 6), "u")])
    book = Book([data, Sheet("More", cells=[((1, 1), "y", None, RED)]), Sheet("Last")], active=2)
    for scope, word, tree in ((None, "rate", ("number", 1)), ("Data", "tax", ("name", "rate")), ("More", "tax", ("number", 2))):
        book = with_name(book, scope, word, tree)
    return book


def five(*where):
    return [(sort, *where) for sort in PART_SORTS]


THINGS = [("active",), ("sheet", "Data"), ("hidden", "Data"), ("frozen", "Data"), ("size", "Data", "columns", 1), ("hidden", "Data", "columns", 1), *five("Data", "columns", 1),
          ("size", "Data", "columns", 2), ("hidden", "Data", "rows", 3), ("size", "Data", "rows", 4), ("font", "Data", "rows", 4), ("size", "Data", "rows", 5), ("font", "Data", "rows", 5),
          ("value", "Data", (1, 1)), ("formula", "Data", (1, 1)), *five("Data", (1, 1)), ("value", "Data", (2, 1)), ("formula", "Data", (2, 1)), ("value", "Data", (3, 1)),
          ("font", "Data", (3, 1)), ("fill", "Data", (3, 1)), ("font", "Data", (4, 1)), ("value", "Data", (4, 2)), ("merge", "Data", (8, 1, 9, 2)), ("merge", "Data", (8, 3, 8, 4)),
          ("link", "Data", (1, 1)), ("link", "Data", (5, 5)), ("link", "Data", (6, 6)), ("sheet", "More"), ("value", "More", (1, 1)), ("font", "More", (1, 1)), ("fill", "More", (1, 1)),
          ("sheet", "Last"), ("name", None, "rate"), ("name", "Data", "tax"), ("name", "More", "tax")]


def of(*words):
    return [thing for thing in THINGS if thing[0] in words]


class Things(unittest.TestCase):
    def test_each_sort_in_its_order(self):
        self.assertEqual(things_of(book=a_book()), THINGS)
        self.assertEqual(things_of(Book([Sheet("a")])), [("sheet", "a")])
        things_of(a_book()).clear()
        self.assertEqual(len(things_of(a_book())), len(THINGS))

    def test_what_is_no_thing(self):
        sheet = Sheet("a", cells=[((1, 1), None, ("number", 1), PLAIN), ((2, 2), 1, None, PLAIN), ((3, 3), None, None, BOLD)], columns=[(1, 5, False, PLAIN)], rows=[(1, None, True, PLAIN)])
        self.assertEqual(things_of(Book([sheet, Sheet("b")], active=1)), [("sheet", "a"), ("size", "a", "columns", 1), ("hidden", "a", "rows", 1), ("formula", "a", (1, 1)), ("value", "a", (2, 2)),
                                                                         ("font", "a", (3, 3)), ("sheet", "b")])

    def test_wrong_books_and_things(self):
        for value in ODD_VALUES:
            self.assertEqual(caught(BadBook, things_of, value).given, value)
            self.assertEqual(caught(BadBook, taken, value, 5).given, value)
            if not isinstance(value, (list, tuple)):
                self.assertEqual(caught(BadThings, taken, a_book(), value).given, value)

    def test_taking_away_each_thing_alone(self):
        book = a_book()
        for thing in THINGS:
            for things in ([thing], (thing,), [thing, thing, "x"]):
                left = taken(book=book, things=things)
                gone = [one for one in THINGS if one not in things_of(left)]
                if thing[0] == "sheet":
                    wanted = [one for one in THINGS if one[0] == "active" and thing[1] == "More" or len(one) > 1 and one[1] == thing[1]]
                    # Behind the first sheet, the active one is the first one now, which is no thing.
                    self.assertEqual(gone, [one for one in THINGS if one in wanted or thing[1] == "Data" and one == ("active",)])
                else:
                    self.assertEqual(gone, [thing])
                self.assertTrue(remade(left).is_same(left))

    def test_cells_and_settings_of_which_nothing_is_left_go(self):
        left = taken(a_book(), [("value", "Data", (2, 1)), ("formula", "Data", (2, 1)), ("font", "Data", (4, 1)), ("size", "Data", "columns", 2), ("hidden", "Data", "rows", 3),
                                ("font", "Data", (3, 1))])
        sheet = left.sheets[0]
        self.assertEqual([cell[0] for cell in sheet.cells], [(1, 1), (3, 1), (4, 2)])
        self.assertEqual(sheet.cells[1], ((3, 1), 0, None, ("", PLAIN[1], 255, PLAIN[3], PLAIN[4])))
        self.assertEqual((sheet.columns, [row[0] for row in sheet.rows]), (((1, 5, True, FULL),), [4, 5]))

    def test_the_active_sheet(self):
        book = a_book().changed(active=3)
        self.assertEqual(taken(book, [("sheet", "Data")]).active, 2)
        self.assertEqual(taken(book, [("sheet", "More"), ("sheet", "Data")]).active, 1)
        self.assertEqual(taken(book, [("sheet", "Last")]).active, 1)
        self.assertEqual(taken(book, [("active",)]).active, 1)
        self.assertEqual(taken(book, [("active",), ("sheet", "Data")]).active, 1)

    def test_without_sheets(self):
        left = taken(a_book(), [("sheet", "More"), ("sheet", "Data"), ("sheet", "Last")])
        self.assertTrue(left.is_same(Book([Sheet("Sheet1")], names=[(None, "rate", ("number", 1))])))
        self.assertTrue(taken(a_book(), THINGS).is_same(Book([Sheet("Sheet1")])))

    def test_what_is_no_thing_of_the_book_is_passed_over(self):
        book = a_book()
        things = [*ODD_VALUES, ("active", 1), ("sheet",), ("sheet", "data"), ("value", "Data", (True, 1)), ("value", "Data", [1, 1]), ("value", "Data", (1, 1.0)), ("value", "Data", (9, 9)),
                  ("size", "Data", "columns", True), ("fill", "Data", (4, 1)), ("hidden", "More"), ("name", "rate"), ("name", "Last", "rate"), ["sheet", "Data"], ("merge", "Data", (8, 1, 9, True)),
                  ("x", {}), (((("value",),),),), ("size", "Data", "columns", 2.0)]
        self.assertTrue(taken(book, things).is_same(book))
        carriers = Carriers(write(book))
        for thing in things:
            self.assertEqual(carriers.carriers(thing), [])

    def test_nothing_is_changed(self):
        book, things = a_book(), [("sheet", "Data")]
        taken(book, things)
        self.assertEqual((things, things_of(book)), ([("sheet", "Data")], THINGS))


class Spots(unittest.TestCase):
    FILE = {"a": "one\ntwo", "b": "", "c": "x\n\n"}

    def test_damaged(self):
        self.assertEqual(damaged(self.FILE, [("a", 1), ("c", 3), ("a", 1)]), {"a": "?\ntwo", "b": "", "c": "x\n\n?"})
        self.assertEqual(damaged(file=self.FILE, spots=(("b", 1),)), {"a": "one\ntwo", "b": "?", "c": "x\n\n"})
        for spots in ([], ()):
            made = damaged(self.FILE, spots)
            self.assertEqual(made, self.FILE)
            self.assertIsNot(made, self.FILE)

    def test_without_lines(self):
        self.assertEqual(without_lines(self.FILE, [("a", 1), ("c", 3), ("a", 1)]), {"a": "two", "b": "", "c": "x\n"})
        self.assertEqual(without_lines(file=self.FILE, spots=(("a", 1), ("b", 1), ("a", 2))), {"c": "x\n\n"})
        self.assertEqual(without_lines(self.FILE, ()), self.FILE)
        self.assertEqual(self.FILE, {"a": "one\ntwo", "b": "", "c": "x\n\n"})

    def test_spots_that_are_none(self):
        for call in (damaged, without_lines, lambda file, spots: Carriers(write(a_book())).loss(spots)):
            for value in ODD_VALUES:
                if not isinstance(value, (list, tuple)):
                    error = caught(NoLine, call, self.FILE, value)
                    self.assertEqual((error.path, error.number), (None, None))
                if not (isinstance(value, tuple) and len(value) == 2):
                    error = caught(NoLine, call, self.FILE, [value, ("x", 1)])
                    self.assertEqual((error.path, error.number), (None, None))
            for pair in ((1, 1), ("zz", 1), ("a", 99), ("a", 0), ("a", -1), ("a", True), ("a", "1"), ("a", 1.0), ("a", None), (None, None), ([], 1), ({}, 1), ("book", 0), ("book", True)):
                error = caught(NoLine, call, self.FILE, [pair, 5])
                self.assertEqual((error.path, error.number), pair)

    def test_the_first_wrong_spot_is_told(self):
        error = caught(NoLine, damaged, self.FILE, [("a", 1), ("b", 2), 5])
        self.assertEqual((error.path, error.number), ("b", 2))

    def test_values_that_are_no_files(self):
        for call in (damaged, without_lines):
            for value in ODD_VALUES:
                if not isinstance(value, dict):
                    self.assertIsNone(caught(BadFile, call, value, 5).given)
            self.assertEqual(caught(BadFile, call, {"a": "", 5: ""}, 5).given, 5)


class Carrying(unittest.TestCase):
    def setUp(self):
        self.file = write(a_book())
        self.carriers = Carriers(self.file)

    def carried(self, path, row):
        """What the line with this text carries."""
        return self.carriers.carried(path, self.file[path].split("\n").index(row) + 1)

    def test_headers_carry_nothing(self):
        for path in self.file:
            self.assertEqual(self.carriers.carried(path=path, number=1), [])

    def test_lines_that_lead_to_parts(self):
        self.assertEqual(self.carried("links", "r1 book book"), THINGS)
        self.assertEqual(self.carried("book.links", "r1 strings strings"), [("value", "Data", (1, 1)), ("value", "Data", (4, 2)), ("value", "More", (1, 1))])
        self.assertEqual(self.carried("book.links", "r2 styles styles"), of(*PART_SORTS))
        self.assertEqual(self.carried("book.links", "r3 sheet sheets/1"), [thing for thing in THINGS if len(thing) > 1 and thing[1] == "Data"
                                                                           and thing not in (("sheet", "Data"), ("hidden", "Data"), ("name", "Data", "tax"))])
        self.assertEqual(self.carried("book.links", "r5 sheet sheets/3"), [])

    def test_lines_of_the_book(self):
        self.assertEqual(self.carried("book", "active 2"), [("active",)])
        self.assertEqual(self.carried("book", 'sheet 1 "Data" r3 hidden'), [thing for thing in THINGS if len(thing) > 1 and thing[1] == "Data"])
        self.assertEqual(self.carried("book", 'sheet 2 "More" r4'), [thing for thing in THINGS if len(thing) == 1 or thing[1] == "More"])
        self.assertEqual(self.carried("book", 'sheet 3 "Last" r5'), [("sheet", "Last")])
        self.assertEqual(self.carried("book", 'name - rate "=1"'), [("name", None, "rate")])
        self.assertEqual(self.carried("book", 'name 1 tax "=rate"'), [("name", "Data", "tax")])

    def test_lines_of_tables(self):
        self.assertEqual(self.carried("strings", '1 "x"'), [("value", "Data", (1, 1)), ("value", "Data", (4, 2))])
        self.assertEqual(self.carried("strings", '2 "y"'), [("value", "More", (1, 1))])
        self.assertEqual(self.carried("styles", 'font 2 "Plain" 10 bold'), [thing for thing in of("font") if thing[-1] not in ((1, 1), 1) or thing[1] == "More"])
        self.assertEqual(self.carried("styles", "fill 2 255"), [("fill", "Data", (3, 1)), ("fill", "More", (1, 1))])
        self.assertEqual(self.carried("styles", "style 2 0 2 2 0 0"), [thing for thing in of("font", "fill") if thing[1:] in (("Data", (3, 1)), ("More", (1, 1)))])
        self.assertEqual(self.carried("styles", "style 1 1 1 1 1 1"), [*five("Data", "columns", 1), *five("Data", (1, 1))])

    def test_lines_of_sheets(self):
        self.assertEqual(self.carried("sheets/1", "frozen 0 1"), [("frozen", "Data")])
        self.assertEqual(self.carried("sheets/1", "columns A-A 5 1 hidden"), [("size", "Data", "columns", 1), ("hidden", "Data", "columns", 1), *five("Data", "columns", 1)])
        self.assertEqual(self.carried("sheets/1", "rows 3-3 - 0 hidden"), [("hidden", "Data", "rows", 3)])
        self.assertEqual(self.carried("sheets/1", "rows 4-5 0 3"), [("size", "Data", "rows", 4), ("font", "Data", "rows", 4), ("size", "Data", "rows", 5), ("font", "Data", "rows", 5)])
        self.assertEqual(self.carried("sheets/1", "cell A1 s1 1"), [("value", "Data", (1, 1)), *five("Data", (1, 1))])
        self.assertEqual(self.carried("sheets/1", "cell A2 false 0"), [("value", "Data", (2, 1))])
        self.assertEqual(self.carried("sheets/1", "cell A4 - 3"), [("font", "Data", (4, 1))])
        self.assertEqual(self.carried("sheets/1", 'formula A1:A2 "=RC[1]"'), [("formula", "Data", (1, 1)), ("formula", "Data", (2, 1))])
        self.assertEqual(self.carried("sheets/1", "merge C8:D8"), [("merge", "Data", (8, 3, 8, 4))])
        self.assertEqual(self.carried("sheets/1", "link E5 r1"), [("link", "Data", (5, 5))])
        self.assertEqual(self.carried("sheets/1.links", 'r1 outer "t"'), [("link", "Data", (1, 1)), ("link", "Data", (5, 5))])

    def test_carriers(self):
        at = {(path, row): number + 1 for path, text in self.file.items() for number, row in enumerate(text.split("\n"))}
        self.assertEqual(self.carriers.carriers(thing=("fill", "Data", (3, 1))), [
            ("book", at["book", 'sheet 1 "Data" r3 hidden']), ("book.links", 3), ("book.links", 4), ("links", 2), ("sheets/1", at["sheets/1", "cell A3 0 2"]),
            ("styles", at["styles", "fill 2 255"]), ("styles", at["styles", "style 2 0 2 2 0 0"])])
        self.assertEqual(self.carriers.carriers(("link", "Data", (6, 6))), [("book", 3), ("book.links", 4), ("links", 2), ("sheets/1", at["sheets/1", "link F6 r2"]), ("sheets/1.links", 3)])
        self.assertEqual(self.carriers.carriers(("active",)), [("book", 2), ("book", 4), ("links", 2)])
        self.assertEqual(self.carriers.carriers(("name", None, "rate")), [("book", 6), ("links", 2)])
        lines = [(path, number + 1) for path, text in self.file.items() for number in range(text.count("\n") + 1)]
        for thing in THINGS:
            told = self.carriers.carriers(thing)
            self.assertEqual(told, sorted(spot for spot in lines if thing in self.carriers.carried(*spot)))
        self.carriers.carriers(THINGS[0]).clear()
        self.carriers.carried("links", 2).clear()
        self.assertEqual((len(self.carriers.carriers(THINGS[0])), len(self.carriers.carried("links", 2))), (3, len(THINGS)))

    def test_loss(self):
        self.assertEqual(self.carriers.loss(spots=[]), [])
        self.assertEqual(self.carriers.loss([("sheets/1", 2), ("book", 2), ("sheets/1", 2), ("sheets/1", 1)]), [("active",), ("frozen", "Data")])
        self.assertEqual(self.carriers.loss((("links", 2),)), THINGS)

    def test_weights(self):
        weights = self.carriers.weights()
        self.assertEqual(weights[0], ("links", 2, len(THINGS)))
        self.assertEqual(sorted(row[:2] for row in weights), sorted((path, number + 1) for path, text in self.file.items() for number in range(text.count("\n") + 1)))
        self.assertEqual([row[2] for row in weights], [len(self.carriers.carried(path, number)) for path, number, _ in weights])
        self.assertEqual(weights, sorted(weights, key=lambda row: (-row[2], row[0], row[1])))
        self.assertEqual(weights[-1], ("styles", 1, 0))

    def test_no_lines(self):
        for path, number in (("x", 1), ("links", 0), ("links", 3), ("links", True), ("links", "1"), (None, 1), ([], 1), ({}, {})):
            for call in (self.carriers.carried, Damage(self.file).hit):
                error = caught(NoLine, call, path, number)
                self.assertEqual((error.path, error.number), (path, number))

    def test_other_files(self):
        for kind in (Carriers, Damage):
            for value in ODD_VALUES:
                self.assertEqual(caught(BadFile, kind, value).given, 1 if value == {1: 1} else None)
            self.assertEqual(caught(BadFile, kind, {"a": "", 5: ""}).given, 5)
            for file in ({}, {"links": "links 0"}, {**self.file, "x": ""}, {**self.file, "book": self.file["book"].replace("=rate", "= rate")}):
                self.assertIsNone(caught(BadFile, kind, file).given)
        self.assertTrue(self.carriers.book.is_same(a_book()))
        self.assertTrue(Carriers(file=self.file).book.is_same(a_book()))


class Damages(unittest.TestCase):
    def test_line_by_line(self):
        file = write(a_book())
        damage = Damage(file=file)
        self.assertEqual((damage.spots, damage.left().is_same(a_book())), ((), True))
        self.assertEqual(damage.hit(path="strings", number=2), [("value", "Data", (1, 1)), ("value", "Data", (4, 2))])
        self.assertEqual(damage.hit("sheets/1", file["sheets/1"].split("\n").index("cell A1 s1 1") + 1), five("Data", (1, 1)))
        self.assertEqual(damage.hit("strings", 1), [])
        error = caught(NoLine, damage.hit, "strings", 2)
        self.assertEqual((error.path, error.number), ("strings", 2))
        self.assertEqual(damage.spots, (("sheets/1", damage.spots[0][1]), ("strings", 1), ("strings", 2)))
        self.assertTrue(damage.left().is_same(read(damaged(file, damage.spots))))
        self.assertTrue(damage.book.is_same(a_book()))
        self.assertEqual(damage.carried("strings", 2), [("value", "Data", (1, 1)), ("value", "Data", (4, 2))])

    def test_in_any_order_damages_add_up(self):
        chance = random.Random(9)
        for _ in range(60):
            book = random_book(chance)
            file = write(book)
            lines = [(path, number + 1) for path, text in file.items() for number in range(text.count("\n") + 1)]
            spots = chance.sample(lines, min(len(lines), chance.choice((1, 2, 4, 8))))
            one, other = Damage(file), Damage(file)
            gone = [thing for spot in spots for thing in one.hit(*spot)]
            gone_otherwise = [thing for spot in sorted(spots) for thing in other.hit(*spot)]
            self.assertEqual(len(gone), len(set(gone)))
            self.assertEqual(sorted(gone, key=repr), sorted(gone_otherwise, key=repr))
            self.assertEqual([thing for thing in things_of(book) if thing in gone], Carriers(file).loss(spots))
            self.assertTrue(one.left().is_same(other.left()))
            self.assertEqual((one.spots, other.spots), (tuple(sorted(spots)), tuple(sorted(spots))))

    def test_what_is_read_is_the_book_without_the_things(self):
        chance = random.Random(10)
        for _ in range(80):
            book = random_book(chance)
            file = write(book)
            carriers = Carriers(file)
            lines = [(path, number + 1) for path, text in file.items() for number in range(text.count("\n") + 1)]
            for many in (1, 1, 2, 3, 6, 12):
                spots = chance.sample(lines, min(len(lines), many))
                left = taken(book, carriers.loss(spots))
                self.assertTrue(read(damaged(file, spots)).is_same(left), spots)
                self.assertTrue(read(without_lines(file, spots)).is_same(left), spots)
                half = chance.sample(spots, len(spots) // 2)
                self.assertTrue(read(without_lines(damaged(file, half), spots)).is_same(left))
                self.assertTrue(remade(left).is_same(left))
                self.assertTrue(is_canonical(write(left)))
                self.assertTrue(complaints(damaged(file, spots)))

    def test_all_lines(self):
        file = write(a_book())
        for path in file:
            lines = [(path, number + 1) for number in range(file[path].count("\n") + 1)]
            left = taken(a_book(), Carriers(file).loss(lines))
            self.assertTrue(read(without_lines(file, lines)).is_same(left))
            self.assertNotIn(path, without_lines(file, lines))
            self.assertTrue(read({one: text for one, text in file.items() if one != path}).is_same(left))


if __name__ == "__main__":
    unittest.main()
