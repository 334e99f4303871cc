"""Trees and forms as they are printed; nothing is checked here."""

from gridfile.nodes import MINUS_LEVEL, REFERENCES, level_in
from gridfile.places import column_name
from gridfile.words import is_name_word

ERROR_TEXTS = {"NAME": "#NAME?", "VALUE": "#VALUE!", "DIV": "#DIV/0!"}


def printed(node):
    """The text of a tree or form, without the = of a formula."""
    if node[0] == "op":
        level = level_in(node)
        left = _in_pair(node[2], level_in(node[2]) < level)
        return left + node[1] + _in_pair(node[3], level_in(node[3]) <= level)
    if node[0] == "minus":
        return "-" + _in_pair(node[1], level_in(node[1]) < MINUS_LEVEL)
    if node[0] == "call":
        return node[1] + "(" + ",".join([printed(inner) for inner in node[2]]) + ")"
    if node[0] in REFERENCES:
        return _sheet_text(node[1]) + ":".join([_part_text(node[0], part) for part in node[2:]])
    return _leaf_text(node)


def _in_pair(node, is_needed):
    return "(" + printed(node) + ")" if is_needed else printed(node)


def _leaf_text(node):
    if node[0] == "text":
        return "\"" + node[1].replace("\"", "\"\"") + "\""
    if node[0] == "truth":
        return "TRUE" if node[1] else "FALSE"
    if node[0] == "error":
        return ERROR_TEXTS[node[1]]
    if node[0] == "lost":
        return "#REF!"
    return str(node[1])


def _sheet_text(name):
    if name is None:
        return ""
    return name + "!" if is_name_word(name) else "'" + name + "'!"


def _part_text(kind, part):
    row, column, is_row_fixed, is_column_fixed = part
    if kind in ("rcell", "rrange"):
        return "R" + _form_number_text(row, is_row_fixed) + "C" + _form_number_text(column, is_column_fixed)
    return _dollar(is_column_fixed) + column_name(column) + _dollar(is_row_fixed) + str(row)


def _dollar(is_fixed):
    return "$" if is_fixed else ""


def _form_number_text(number, is_fixed):
    if is_fixed:
        return str(number)
    return "" if number == 0 else f"[{number}]"
