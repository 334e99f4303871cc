"""Edits of books: what they are, doing them, what leads back, and the differences of books."""

from gridfile.checks import is_integer, is_one_of
from gridfile.definitions import is_definition
from gridfile.differing import differences_of, edits_back, remains_of
from gridfile.doing import done, done_all
from gridfile.errors import BadBook, BadEdit
from gridfile.model import check_book
from gridfile.moves import AXES, most_of
from gridfile.parts import is_frozen, is_size, is_target
from gridfile.places import is_place, is_rectangle
from gridfile.trees import is_tree
from gridfile.values import is_style, is_value
from gridfile.words import is_name_word, is_sheet_name

WORDS = ("cell", "link", "merge", "split", "setting", "freeze", "hide", "activate", "insert", "delete", "add", "remove",
         "order", "rename", "name", "all")
# How many items the edits of each word have behind it.
LENGTHS = {"cell": 5, "link": 3, "merge": 2, "split": 2, "setting": 6, "freeze": 3, "hide": 2, "activate": 1,
           "insert": 4, "delete": 4, "add": 2, "remove": 1, "order": 2, "rename": 2, "name": 3, "all": 1}
# How many of the first items of an edit name the thing that it changes.
THING_LENGTHS = {"cell": 3, "link": 3, "merge": 3, "setting": 4, "freeze": 2, "hide": 2, "activate": 1, "name": 3}


def is_edit(value):
    """Whether a value of any kind has the form of an edit."""
    if not isinstance(value, tuple) or value == () or not is_one_of(value[0], WORDS):
        return False
    if len(value) != LENGTHS[value[0]] + 1:
        return False
    check = CHECKS[value[0]]
    return check(value[1:])


def do(book, edit):
    """The book behind an edit."""
    check_book(book)
    check_edit(edit)
    return done(book, edit)


def do_all(book, *edits):
    """The book behind several edits, one after the other."""
    check_book(book)
    for edit in edits:
        check_edit(edit)
    return done_all(book, edits)


def inverse(book, edit):
    """The edit that leads back to the book when it is done behind an edit; "all" if it needs several."""
    do(book, edit)
    edits = edits_back(book, edit)
    return edits[0] if len(edits) == 1 else ("all", tuple(edits))


def remains(book, edit):
    """The tuple of the differences that are left when the opposite of an edit was done behind it."""
    do(book, edit)
    return remains_of(book, edit)


def differences(one, other):
    """The tuple of the edits that lead from the one book to the other, one for each thing in which they differ."""
    for given in (one, other):
        check_book(given)
    if [sheet.name for sheet in one.sheets] != [sheet.name for sheet in other.sheets]:
        raise BadBook(other)
    return differences_of(one, other)


def changed_things(edit):
    """The tuple of the things that an edit changes: those in which books can differ."""
    check_edit(edit)
    return things_changed_by(edit)


def things_changed_by(edit):
    """As changed_things, for what is known to be an edit."""
    if edit[0] in THING_LENGTHS:
        return (edit[:THING_LENGTHS[edit[0]]],)
    return (("merge", *edit[1:]),) if edit[0] == "split" else ()


def check_edit(value):
    """Raises BadEdit for what is no edit."""
    if not is_edit(value):
        raise BadEdit(value)


def _is_cell(items):
    name, place, value, formula, style = items
    if not is_sheet_name(name) or not is_place(place) or not is_value(value):
        return False
    return (formula is None or is_tree(formula)) and is_style(style)


def _is_link(items):
    name, place, target = items
    return is_sheet_name(name) and is_place(place) and (target is None or is_target(target))


def _is_merge(items):
    return _is_split(items) and items[1][:2] != items[1][2:]


def _is_split(items):
    return is_sheet_name(items[0]) and is_rectangle(items[1])


def _is_setting(items):
    name, axis, number, size, hidden, style = items
    if not is_sheet_name(name) or not is_one_of(axis, AXES) or not is_integer(number, 1, most_of(axis)):
        return False
    return is_size(size) and isinstance(hidden, bool) and is_style(style)


def _is_freeze(items):
    return is_sheet_name(items[0]) and is_frozen(items[1:])


def _is_hide(items):
    return is_sheet_name(items[0]) and isinstance(items[1], bool)


def _is_named_sheet(items):
    return is_sheet_name(items[0])


def _is_insert(items):
    name, axis, at, many = items
    if not is_sheet_name(name) or not is_one_of(axis, AXES):
        return False
    return is_integer(at, 1, most_of(axis)) and is_integer(many, 1, most_of(axis))


def _is_delete(items):
    return _is_insert(items) and items[2] + items[3] - 1 <= most_of(items[1])


def _is_add(items):
    return is_sheet_name(items[0]) and _is_scope(items[1])


def _is_order(items):
    return _is_add(items) and items[0] != items[1]


def _is_rename(items):
    return is_sheet_name(items[0]) and is_sheet_name(items[1])


def _is_name(items):
    if items[2] is None:
        return _is_scope(items[0]) and is_name_word(items[1])
    return is_definition(items)


def _is_all(items):
    if not isinstance(items[0], tuple):
        return False
    return all([is_edit(edit) and edit[0] != "all" for edit in items[0]])


def _is_scope(value):
    """Whether a value of any kind is None or the name of a sheet."""
    return value is None or is_sheet_name(value)


# It stands here because it needs the functions above it.
CHECKS = {"cell": _is_cell, "link": _is_link, "merge": _is_merge, "split": _is_split, "setting": _is_setting,
          "freeze": _is_freeze, "hide": _is_hide, "activate": _is_named_sheet, "insert": _is_insert,
          "delete": _is_delete, "add": _is_add, "remove": _is_named_sheet, "order": _is_order, "rename": _is_rename,
          "name": _is_name, "all": _is_all}
