"""The interface of the document: each name stands in its file, with its arguments."""

import ast
import importlib
import pathlib
import unittest

PACKAGE = pathlib.Path(__file__).resolve().parent.parent / "gridfile"
CONSTANTS = {
    "places": {"MOST_ROW": 9999, "MOST_COLUMN": 702},
    "lines": {"MOST_TEXT": 2000, "MOST_WORD": 100, "MOST_ITEMS": 20},
    "values": {"PLAIN": ("", ("Plain", 10, False, False), None, (0, 0, 0, 0), ("general", False))},
    "model": {"MOST_CELLS": 2000, "MOST_SHEETS": 30},
    "trees": {"MOST_DEPTH": 20, "MOST_WEIGHT": 1999, "MOST_CALLED": 30},
    "tables": {"PART_SORTS": ("format", "font", "fill", "border", "align")},
    "links": {"TYPES": ("book", "strings", "styles", "sheet", "outer")},
    "canonical": {"RULES": ("clean", "paths", "words", "order", "numbers", "use", "needed", "defaults", "least")},
    "edits": {"WORDS": ("cell", "link", "merge", "split", "setting", "freeze", "hide", "activate", "insert", "delete", "add",
                        "remove", "order", "rename", "name", "all")},
    "reading": {"CODES": ("line", "again", "lost", "off", "ring", "full", "part", "alone", "count"),
                "KINDS": ("links", "book", "parts", "strings", "styles", "sheet", "outer")},
}
FUNCTIONS = {
    "places": """is_place(value) is_rectangle(value) column_name(column) place_name(place) rectangle_name(rectangle)
        column_number(text) place_at(text) rectangle_at(text) rectangle_of(one,other) has_place(rectangle,place)
        common(one,other) hull(one,other) size_of(rectangle) places_in(rectangle) without(one,other)""",
    "lines": """is_word(value) is_string(value) is_line(value) line_text(line) line_of(text) lines_text(lines)
        lines_of(text)""",
    "words": "is_sheet_name(value) is_name_word(value)",
    "values": "is_value(value) is_style(value) same(one,other)",
    "names": """meaning_of(book,scope,word) uses_of(book,scope,word) order_of(book) ring_of(names)
        with_name(book,scope,word,tree) without_name(book,scope,word) users_of(book,scope,word)""",
    "trees": """is_tree(value) is_form(value) wrong_at(value) depth(tree) weight(tree) level_of(tree) how_many(tree)
        each_node(tree) node_at(tree,path) replaced(tree,path,other) references(tree) rectangle_of_reference(tree)
        sheets_in(tree) words_in(tree) functions_in(tree) lost_in(tree) with_sheet(tree,old,new) is_all_fixed(tree)""",
    "formulas": """read_formula(text) is_formula(value) print_formula(tree) tokens(text) normal(text) pairs(text)
        needless(text) without_pair(text,number)""",
    "forms": """relative(tree,place) absolute(form,place) print_form(form) read_form(text) room(form) room_of(form,path)
        fill(tree,start,goal) lost_by(tree,start,goal) same_form(tree,place,other,goal)""",
    "shifting": """moved_tree(tree,home,name,axis,edit_map) moved(book,name,axis,edit_map) inserted(book,name,axis,at,many)
        deleted(book,name,axis,at,many) touched(book,name,axis,edit_map) names_touched(book,name,axis,edit_map)
        moved_place(place,axis,edit_map) moved_merge(rectangle,axis,edit_map) moved_frozen(frozen,axis,edit_map)
        renamed(book,name,other)""",
    "filling": """filled(sheet,start,rectangle) copied(sheet,rectangle,goal) safe_part(sheet,start,rectangle)
        losing_parts(sheet,start,rectangle)""",
    "tables": "joined_map(first,second)",
    "runs": """setting_runs(settings) settings_of(runs) joins_of(cells) crosses(one,other) greatest_matching(cells)
        given_up(cells) fewest_lines(cells) formula_lines(cells) line_cells(lines) check_matching(cells,pairs)""",
    "counts": "formula_cells(sheet) counts_of(book) paper_of(book) check_paper(book,paper) is_shown(book,paper)",
    "links": """links_of(path) is_path(value) relationship_line(number,sort,target) relationship_of(line) ways(file)
        unreached(file)""",
    "writing": "write(book) paths_of(book) part_lines(book,path) string_table(book) style_table(book)",
    "canonical": "breaches(file) is_canonical(file)",
    "reading": """read(file) complaints(file) is_clean(file) word_of(kind,line) disagree(kind,one,other)
        is_greatest(kind,text,kept)""",
    "damage": "things_of(book) taken(book,things) damaged(file,spots) without_lines(file,spots)",
    "edits": """is_edit(value) do(book,edit) do_all(book,*edits) inverse(book,edit) remains(book,edit) differences(one,other)
        changed_things(edit)""",
    "apart": "together(book,e,f) carried(book,e,f) conflict(book,e,f) together_rows(book,es,fs)",
    "sessions": "do_together(session,*edits) in_block(session,many,*edits)",
}
CLASSES = {
    "model": {
        "Sheet": """__init__(self,name,*,cells=(),merges=(),columns=(),rows=(),frozen=(0,0),links=(),hidden=False)
            name(self) cells(self) merges(self) columns(self) rows(self) frozen(self) links(self) hidden(self)
            cell_at(self,place) merge_at(self,place) is_covered(self,place) link_at(self,place)
            column_setting(self,column) row_setting(self,row) with_cell(self,place,value,formula=None,style=PLAIN)
            changed(self,**parts) is_same(self,other)""",
        "Book": """__init__(self,sheets,*,active=1,names=()) sheets(self) active(self) names(self)
            sheet_at(self,number) number_of(self,name) sheet_named(self,name) with_sheet(self,number,sheet)
            changed(self,**parts) is_same(self,other)""",
    },
    "editmaps": {
        "EditMap": """unchanged(cls) inserting(cls,at,many) deleting(cls,at,many) of(cls,edits) pieces(self) then(self,other)
            back(self) is_same(self,other) new_of(self,number) old_at(self,number) marks_at(self,number)
            span_of(self,first,last) front_of(self,count) gone(self) made(self)""",
    },
    "tables": {
        "TextTable": """__init__(self,texts=()) texts(self) how_many(self) text_at(self,number) number_of(self,text)
            grown(self,things) merged(self,other) compacted(self,numbers)""",
        "StyleTable": """__init__(self,parts=((),(),(),(),()),rows=()) parts(self) rows(self) how_many(self)
            style_at(self,number) number_of(self,style) part_number(self,sort,part) grown(self,things) merged(self,other)
            compacted(self,numbers)""",
    },
    "reading": {"Reading": "__init__(self,file) book(self) complaints(self) kept(self) kinds(self)"},
    "damage": {
        "Carriers": "__init__(self,file) book(self) carried(self,path,number) carriers(self,thing) loss(self,spots) weights(self)",
        "Damage": "__init__(self,file) hit(self,path,number) left(self) spots(self)",
    },
    "sessions": {
        "Session": """__init__(self,book) book(self) done_edits(self) undone_edits(self) do(self,edit) undo(self,many=1)
            redo(self,many=1) copy(self) each_book(self)""",
        "Block": "__init__(self,session) __enter__(self) __exit__(self,kind,value,trace)",
    },
    "stores": {"Store": """__init__(self,file) of(cls,book) file(self) complaints(self) is_saved(self) path_of(self,sheet)
        save(self) would_change(self) compact(self)"""},
}
# What is read without a call, and what is called off the class.
PROPERTIES = {("model", "Sheet"): "name cells merges columns rows frozen links hidden", ("model", "Book"): "sheets active names",
              ("editmaps", "EditMap"): "pieces", ("tables", "TextTable"): "texts how_many", ("tables", "StyleTable"): "parts rows how_many",
              ("reading", "Reading"): "book complaints kept kinds", ("damage", "Carriers"): "book", ("damage", "Damage"): "spots",
              ("sessions", "Session"): "book done_edits undone_edits", ("stores", "Store"): "file complaints"}
CLASS_METHODS = {("editmaps", "EditMap"): "unchanged inserting deleting of", ("stores", "Store"): "of"}
BASES = {("damage", "Damage"): "Carriers", ("stores", "Store"): "Session"}


def tree_of(name):
    return ast.parse((PACKAGE / f"{name}.py").read_text(encoding="utf-8"))


def heads_in(body):
    """The functions that a file or class itself defines, as the tables above tell them."""
    return {node.name: f"{node.name}({ast.unparse(node.args).replace(' ', '')})"
            for node in body if isinstance(node, ast.FunctionDef)}


class Interface(unittest.TestCase):
    def test_constants(self):
        for name, told in CONSTANTS.items():
            module = importlib.import_module(f"gridfile.{name}")
            assigned = {target.id for node in tree_of(name).body if isinstance(node, ast.Assign) for target in node.targets}
            for word, value in told.items():
                self.assertEqual(getattr(module, word), value, word)
                self.assertIn(word, assigned)

    def test_functions(self):
        for name, told in FUNCTIONS.items():
            heads = heads_in(tree_of(name).body)
            for head in told.split():
                self.assertEqual(heads.get(head.partition("(")[0]), head, name)

    def test_classes(self):
        for name, classes in CLASSES.items():
            bodies = {node.name: node for node in tree_of(name).body if isinstance(node, ast.ClassDef)}
            for word, told in classes.items():
                heads = heads_in(bodies[word].body)
                for head in told.split():
                    self.assertEqual(heads.get(head.partition("(")[0]), head, word)

    def test_classes_below_others(self):
        for (name, word), base in BASES.items():
            body = next(node for node in tree_of(name).body if isinstance(node, ast.ClassDef) and node.name == word)
            self.assertEqual([ast.unparse(one) for one in body.bases], [base])

    def test_properties_and_class_methods(self):
        for told, decorator in ((PROPERTIES, "property"), (CLASS_METHODS, "classmethod")):
            for (name, word), methods in told.items():
                body = next(node for node in tree_of(name).body if isinstance(node, ast.ClassDef) and node.name == word).body
                found = {node.name for node in body if isinstance(node, ast.FunctionDef)
                         and [ast.unparse(one) for one in node.decorator_list] == [decorator]}
                self.assertEqual(found, set(methods.split()))


if __name__ == "__main__":
    unittest.main()
