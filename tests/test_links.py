"""[43] and gridfile/links.py: relationships, ways, reached parts."""

import unittest

from gridfile.errors import BadFile, BadNumber, BadPath, BadWord
from gridfile.lines import line_of, line_text
from gridfile.links import TYPES, is_path, links_of, relationship_line, relationship_of, unreached, ways
from support import ODD_VALUES, caught

NOT_PATHS = ["", "links", "a.links", ".links", "links.links", "a b", 'a"', "a\\b", "a\nb", "x" * 101, "a" + chr(37)]
NOT_TARGETS = ["", "x" * 201, "a" + chr(37), "a\tb", "\u00e4"]
# Lines that are nearly relationships.
NEARLY = ["r1 book", "r1 book b c", "book r1 b", "r0 book b", "r01 book b", "r10000000 book b", "r-1 book b", "R1 book b", "1 book b",
          "r book b", "rr1 book b", "r1 books b", "r1 Book b", "r1 book links", "r1 sheet b.links", "r1 book \"b\"", "r1 outer b", "r1 outer \"\"",
          "r1 outer \"" + "x" * 201 + "\"", "\"r1\" book b", "r1 \"book\" b", "links 1", "r1"]


def file_of(**parts):
    """A file; each part is told by its lines, the paths without dots."""
    return {path.replace("_", "."): "\n".join([f"links {len(lines)}", *lines]) for path, lines in parts.items()}


class Paths(unittest.TestCase):
    def test_links_of(self):
        for path, inner in (("", "links"), ("a", "a.links"), ("links", "links.links"), ("a.links", "a.links.links"), ("a b", "a b.links")):
            self.assertEqual(links_of(path), inner)
        self.assertEqual(links_of(path="b"), "b.links")
        for value in ODD_VALUES:
            if not isinstance(value, str):
                self.assertEqual(caught(BadPath, links_of, value).given, value)

    def test_is_path(self):
        for value in ("a", "link", "links2", "alinks", "sheets/1", "links/1", "linksx", "Links", "a.links.b", "a.Links", "x" * 100, "?", "'"):
            self.assertIs(is_path(value), True, value)
        for value in (*NOT_PATHS, *[value for value in ODD_VALUES if value != "A1"]):
            self.assertIs(is_path(value), False, value)
        self.assertIs(is_path(value="a"), True)


class Relationships(unittest.TestCase):
    def test_types(self):
        self.assertEqual(TYPES, ("book", "strings", "styles", "sheet", "outer"))

    def test_lines(self):
        for number in (1, 2, 10, 9999999):
            for sort in TYPES[:-1]:
                line = relationship_line(number, sort, "sheets/1")
                self.assertEqual(line, (f"r{number}", sort, "sheets/1"))
                self.assertEqual(relationship_of(line), (number, sort, "sheets/1"))
        for target in ("x", "links", "a.links", " ", 'a "b" \\ \n\n', "x" * 200, "a b"):
            line = relationship_line(number=7, sort="outer", target=target)
            self.assertEqual(line, ("r7", "outer", (target,)))
            self.assertEqual(relationship_of(line=line), (7, "outer", target))
            self.assertEqual(relationship_of(line_of(line_text(line))), (7, "outer", target))

    def test_wrong_arguments_in_their_order(self):
        for number in (0, -1, 10000000, *[value for value in ODD_VALUES if value != 1 or isinstance(value, (bool, float))]):
            self.assertEqual(caught(BadNumber, relationship_line, number, "x", None).given, number)
        for sort in ("", "Book", "sheets", *ODD_VALUES):
            self.assertEqual(caught(BadWord, relationship_line, 1, sort, None).given, sort)
        for sort in TYPES[:-1]:
            for target in (*NOT_PATHS, *[value for value in ODD_VALUES if value != "A1"]):
                self.assertEqual(caught(BadPath, relationship_line, 1, sort, target).given, target)
        for target in (*NOT_TARGETS, *[value for value in ODD_VALUES if value != "A1"]):
            self.assertEqual(caught(BadPath, relationship_line, 1, "outer", target).given, target)

    def test_what_is_nearly_a_relationship(self):
        for text in NEARLY:
            self.assertIsNone(relationship_of(line_of(text)), text)
        for value in (*ODD_VALUES, ["r1", "book", "b"], ("r1", "book", "b c"), ("r1", "book", ("b",)), ("r1", "outer", "b"), ("r1", "outer", ["b"]),
                      ("r1", "book", None), (1, "book", "b"), ("r1", ["book"], "b"), ("r1", "outer", ("b", "c")), "r1 book b"):
            self.assertIsNone(relationship_of(value), value)


class Ways(unittest.TestCase):
    def test_a_part_its_links_and_what_it_leads_to(self):
        file = file_of(links=["r1 book b"], b_links=["r9 sheet s", "r1 strings t", "r2 styles u", "r3 sheet v"], v=[], u=[], t=[], s=[], s_links=[],
                       v_links=[])
        file["b"] = ""
        told = ways(file)
        first = ("links", 2)
        self.assertEqual(list(told.items()), [("links", ()), ("b", (first,)), ("b.links", (first,)), ("s", (first, ("b.links", 2))),
                                              ("s.links", (first, ("b.links", 2))), ("t", (first, ("b.links", 3))), ("u", (first, ("b.links", 4))),
                                              ("v", (first, ("b.links", 5))), ("v.links", (first, ("b.links", 5)))])
        self.assertEqual(unreached(file), ())
        shuffled = {path: file[path] for path in sorted(file, reverse=True)}
        self.assertEqual(list(ways(file=shuffled).items()), list(told.items()))

    def test_the_header_is_line_1_and_need_not_be_one(self):
        self.assertEqual(ways({"links": "r1 book b", "b": ""}), {"links": (), "b": (("links", 1),)})
        self.assertEqual(ways({"links": "?\n\n\nr1 book b", "b": ""}), {"links": (), "b": (("links", 4),)})

    def test_parts_that_are_missing(self):
        self.assertEqual((ways({}), unreached({})), ({}, ()))
        self.assertEqual((ways({"b": "", "b.links": ""}), unreached({"b": "", "b.links": ""})), ({}, ("b", "b.links")))
        file = file_of(links=["r1 book c", "r2 book b"], b_links=["r1 sheet s", "r2 sheet t"], c_links=["r1 sheet t"], t=[], s_links=[])
        file["b"] = ""
        self.assertEqual(list(ways(file)), ["links", "b", "b.links", "t"])
        self.assertEqual(unreached(file), ("c.links", "s.links"))

    def test_a_path_keeps_its_first_way(self):
        file = file_of(links=["r1 book b", "r1 book b", "r2 book c"], b_links=["r1 strings s", "r2 styles s", "r3 sheet s"], c_links=["r1 sheet s", "r2 sheet t"],
                       s=[], s_links=[], t=[])
        file["b"] = file["c"] = ""
        to_s = (("links", 2), ("b.links", 2))
        self.assertEqual(list(ways(file).items()), [("links", ()), ("b", (("links", 2),)), ("b.links", (("links", 2),)), ("s", to_s), ("s.links", to_s),
                                                    ("c", (("links", 4),)), ("c.links", (("links", 4),)), ("t", (("links", 4), ("c.links", 3)))])

    def test_types_that_do_not_lead_further(self):
        file = file_of(links=["r1 sheet s", "r2 strings t", "r3 outer \"u\"", "r4 book b"], b_links=["r1 book s", "r2 strings t", "r3 outer \"u\""],
                       t_links=["r1 sheet u"], s=[], t=[], u=[])
        file["b"] = ""
        self.assertEqual(list(ways(file)), ["links", "b", "b.links", "t"])
        self.assertEqual(unreached(file), ("s", "t.links", "u"))

    def test_a_sheet_does_not_lead_to_parts(self):
        file = file_of(links=["r1 book b"], b_links=["r1 sheet s"], s=[], s_links=["r1 sheet t", "r2 outer \"t\""], t=[])
        file["b"] = ""
        self.assertEqual(unreached(file), ("t",))

    def test_rings(self):
        file = file_of(links=["r1 book b"], b_links=["r1 sheet b", "r2 sheet c", "r3 sheet c"], c=[], c_links=["r1 sheet b"])
        file["b"] = ""
        self.assertEqual(list(ways(file).items()), [("links", ()), ("b", (("links", 2),)), ("b.links", (("links", 2),)), ("c", (("links", 2), ("b.links", 3))),
                                                    ("c.links", (("links", 2), ("b.links", 3)))])

    def test_a_part_that_is_a_sheet_and_a_book_has_one_way(self):
        file = file_of(links=["r1 book b", "r2 book c"], b_links=["r1 sheet c"], c_links=["r1 sheet d"], d=[])
        file["b"] = file["c"] = ""
        told = ways(file)
        self.assertEqual(list(told), ["links", "b", "b.links", "c", "c.links", "d"])
        self.assertEqual(told["c.links"], told["c"])
        self.assertEqual(told["d"], (*told["c"], ("c.links", 2)))

    def test_each_way_leads_on_from_a_way(self):
        file = file_of(links=["r1 book b", "r2 book c"], b_links=["r1 sheet s", "r2 strings t"], c_links=["r1 sheet u", "r2 sheet s"], s=[], t=[], u=[])
        file["b"] = file["c"] = ""
        told = ways(file)
        for path, way in told.items():
            if way:
                self.assertEqual(told[way[-1][0]], way[:-1])
                line = line_of(file[way[-1][0]].split("\n")[way[-1][1] - 1])
                self.assertIn(path, (relationship_of(line)[2], links_of(relationship_of(line)[2])))

    def test_what_is_no_file(self):
        for call in (ways, unreached):
            for value in ODD_VALUES:
                if not isinstance(value, dict):
                    self.assertIsNone(caught(BadFile, call, value).given)
            for key, text in ((1, "x"), ("a", None), (None, ""), (("a",), ""), ("a", b""), (b"a", ""), ("a", ["x"])):
                self.assertEqual(caught(BadFile, call, {"links": "", key: text, 2: 2}).given, key)
                self.assertEqual(caught(BadFile, call, {2: "", key: text}).given, 2)

    def test_new_dicts(self):
        file = {"links": "links 1\nr1 book b", "b": ""}
        ways(file)["links"] = 1
        self.assertEqual((ways(file)["links"], file), ((), {"links": "links 1\nr1 book b", "b": ""}))


if __name__ == "__main__":
    unittest.main()
