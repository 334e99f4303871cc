"""The interface of the document: each name stands in its file, with its arguments."""

import ast
import importlib
import pathlib
import unittest

PACKAGE = pathlib.Path(__file__).resolve().parent.parent / "gridfile"
CONSTANTS = {
    "places": {"MOST_ROW": 9999, "MOST_COLUMN": 702},
    "lines": {"MOST_TEXT": 2000, "MOST_WORD": 100, "MOST_ITEMS": 20},
    "values": {"PLAIN": ("", ("Plain", 10, False, False), None, (0, 0, 0, 0), ("general", False))},
    "model": {"MOST_CELLS": 2000, "MOST_SHEETS": 30},
    "trees": {"MOST_DEPTH": 20, "MOST_WEIGHT": 1999, "MOST_CALLED": 30},
}
FUNCTIONS = {
    "places": """is_place(value) is_rectangle(value) column_name(column) place_name(place) rectangle_name(rectangle)
        column_number(text) place_at(text) rectangle_at(text) rectangle_of(one,other) has_place(rectangle,place)
        common(one,other) hull(one,other) size_of(rectangle) places_in(rectangle) without(one,other)""",
    "lines": """is_word(value) is_string(value) is_line(value) line_text(line) line_of(text) lines_text(lines)
        lines_of(text)""",
    "words": "is_sheet_name(value) is_name_word(value)",
    "values": "is_value(value) is_style(value) same(one,other)",
    "names": """meaning_of(book,scope,word) uses_of(book,scope,word) order_of(book) ring_of(names)
        with_name(book,scope,word,tree) without_name(book,scope,word) users_of(book,scope,word)""",
    "trees": """is_tree(value) is_form(value) wrong_at(value) depth(tree) weight(tree) level_of(tree) how_many(tree)
        each_node(tree) node_at(tree,path) replaced(tree,path,other) references(tree) rectangle_of_reference(tree)
        sheets_in(tree) words_in(tree) functions_in(tree) lost_in(tree) with_sheet(tree,old,new) is_all_fixed(tree)""",
}
CLASSES = {
    "model": {
        "Sheet": """__init__(self,name,*,cells=(),merges=(),columns=(),rows=(),frozen=(0,0),links=(),hidden=False)
            name(self) cells(self) merges(self) columns(self) rows(self) frozen(self) links(self) hidden(self)
            cell_at(self,place) merge_at(self,place) is_covered(self,place) link_at(self,place)
            column_setting(self,column) row_setting(self,row) with_cell(self,place,value,formula=None,style=PLAIN)
            changed(self,**parts) is_same(self,other)""",
        "Book": """__init__(self,sheets,*,active=1,names=()) sheets(self) active(self) names(self)
            sheet_at(self,number) number_of(self,name) sheet_named(self,name) with_sheet(self,number,sheet)
            changed(self,**parts) is_same(self,other)""",
    },
}


def tree_of(name):
    return ast.parse((PACKAGE / f"{name}.py").read_text(encoding="utf-8"))


def heads_in(body):
    """The functions that a file or class itself defines, as the tables above tell them."""
    return {node.name: f"{node.name}({','.join(ast.unparse(node.args).split(', '))})"
            for node in body if isinstance(node, ast.FunctionDef)}


class Interface(unittest.TestCase):
    def test_constants(self):
        for name, told in CONSTANTS.items():
            module = importlib.import_module(f"gridfile.{name}")
            assigned = {target.id for node in tree_of(name).body if isinstance(node, ast.Assign) for target in node.targets}
            for word, value in told.items():
                self.assertEqual(getattr(module, word), value, word)
                self.assertIn(word, assigned)

    def test_functions(self):
        for name, told in FUNCTIONS.items():
            heads = heads_in(tree_of(name).body)
            for head in told.split():
                self.assertEqual(heads.get(head.partition("(")[0]), head, name)

    def test_classes(self):
        for name, classes in CLASSES.items():
            bodies = {node.name: node for node in tree_of(name).body if isinstance(node, ast.ClassDef)}
            for word, told in classes.items():
                heads = heads_in(bodies[word].body)
                for head in told.split():
                    self.assertEqual(heads.get(head.partition("(")[0]), head, word)


if __name__ == "__main__":
    unittest.main()
