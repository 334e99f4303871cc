"""The interface of the document: each name stands in its file, with its arguments."""

import ast
import importlib
import pathlib
import unittest

PACKAGE = pathlib.Path(__file__).resolve().parent.parent / "gridfile"
CONSTANTS = {
    "places": {"MOST_ROW": 9999, "MOST_COLUMN": 702},
    "lines": {"MOST_TEXT": 2000, "MOST_WORD": 100, "MOST_ITEMS": 20},
}
FUNCTIONS = {
    "places": """is_place(value) is_rectangle(value) column_name(column) place_name(place) rectangle_name(rectangle)
        column_number(text) place_at(text) rectangle_at(text) rectangle_of(one,other) has_place(rectangle,place)
        common(one,other) hull(one,other) size_of(rectangle) places_in(rectangle) without(one,other)""",
    "lines": """is_word(value) is_string(value) is_line(value) line_text(line) line_of(text) lines_text(lines)
        lines_of(text)""",
    "words": "is_sheet_name(value) is_name_word(value)",
}
CLASSES = {}


def tree_of(name):
    return ast.parse((PACKAGE / f"{name}.py").read_text(encoding="utf-8"))


def heads_in(body):
    """The functions that a file or class itself defines, as the tables above tell them."""
    return {node.name: f"{node.name}({','.join(ast.unparse(node.args).split(', '))})"
            for node in body if isinstance(node, ast.FunctionDef)}


class Interface(unittest.TestCase):
    def test_constants(self):
        for name, told in CONSTANTS.items():
            module = importlib.import_module(f"gridfile.{name}")
            assigned = {target.id for node in tree_of(name).body if isinstance(node, ast.Assign) for target in node.targets}
            for word, value in told.items():
                self.assertEqual(getattr(module, word), value, word)
                self.assertIn(word, assigned)

    def test_functions(self):
        for name, told in FUNCTIONS.items():
            heads = heads_in(tree_of(name).body)
            for head in told.split():
                self.assertEqual(heads.get(head.partition("(")[0]), head, name)

    def test_classes(self):
        for name, classes in CLASSES.items():
            bodies = {node.name: node for node in tree_of(name).body if isinstance(node, ast.ClassDef)}
            for word, told in classes.items():
                heads = heads_in(bodies[word].body)
                for head in told.split():
                    self.assertEqual(heads.get(head.partition("(")[0]), head, word)


if __name__ == "__main__":
    unittest.main()
