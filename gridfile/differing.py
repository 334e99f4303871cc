"""The differences of two books with the same names of sheets, as edits, and what leads back from an edit."""

from gridfile.definitions import ring_closed
from gridfile.doing import done
from gridfile.moves import most_of
from gridfile.nodes import words_of
from gridfile.values import PLAIN, same


def differences_of(one, other):
    """The tuple of the edits that lead from the one book to the other."""
    edits = []
    for sheet, another in zip(one.sheets, other.sheets):
        edits.extend(_differences_of_sheets(sheet, another))
    if one.active != other.active:
        edits.append(("activate", other.sheet_at(other.active).name))
    return tuple(edits + _differences_of_names(one, other))


def remains_of(book, edit):
    """The tuple of the differences that are left when the opposite of an edit was done behind it."""
    # The opposites of all other words lead back to the very book.
    if edit[0] not in ("delete", "remove"):
        return ()
    return differences_of(done(done(book, edit), _opposite(book, edit)), book)


def edits_back(book, edit):
    """The list of the edits that lead back to the book behind an edit."""
    if edit[0] != "all":
        return [_opposite(book, edit), *remains_of(book, edit)]
    edits = []
    for inner in edit[1]:
        edits = edits_back(book, inner) + edits
        book = done(book, inner)
    return edits


def _opposite(book, edit):
    """The opposite of an edit in a book; not for "all"."""
    word, *items = edit
    if word in STATES:
        state = STATES[word]
        return state(book, items)
    if word in ("merge", "split"):
        return ("split" if word == "merge" else "merge", *items)
    if word == "insert":
        name, axis, at, many = items
        return ("delete", name, axis, at, min(many, most_of(axis) - at + 1))
    if word == "delete":
        return ("insert", *items)
    if word == "add":
        return ("remove", items[0])
    if word == "rename":
        return ("rename", items[1], items[0])
    return ("add" if word == "remove" else "order", items[0], _sheet_before(book, items[0]))


def _sheet_before(book, name):
    """The name of the sheet in front of a sheet, or None for the first one."""
    number = book.number_of(name)
    return None if number == 1 else book.sheet_at(number - 1).name


def _state_of_cell(book, items):
    return ("cell", items[0], items[1], *book.sheet_named(items[0]).cell_at(items[1]))


def _state_of_link(book, items):
    return ("link", items[0], items[1], book.sheet_named(items[0]).link_at(items[1]))


def _state_of_setting(book, items):
    name, axis, number = items[:3]
    sheet = book.sheet_named(name)
    setting = sheet.column_setting(number) if axis == "columns" else sheet.row_setting(number)
    return ("setting", name, axis, number, *setting)


def _state_of_frozen(book, items):
    return ("freeze", items[0], *book.sheet_named(items[0]).frozen)


def _state_of_hidden(book, items):
    return ("hide", items[0], book.sheet_named(items[0]).hidden)


def _state_of_active(book, items):
    return ("activate", book.sheet_at(book.active).name)


def _state_of_name(book, items):
    trees = [item[2] for item in book.names if item[:2] == (items[0], items[1])]
    return ("name", items[0], items[1], trees[0] if trees != [] else None)


def _differences_of_sheets(one, other):
    name = other.name
    edits = [("split", name, merge) for merge in one.merges if merge not in other.merges]
    cells = _changed_items(one.cells, other.cells, (None, None, PLAIN))
    edits.extend([("cell", name, *item) for item in cells if item[1:] == (None, None, PLAIN)])
    edits.extend([("cell", name, *item) for item in cells if item[1:] != (None, None, PLAIN)])
    links = _changed_items(one.links, other.links, (None,))
    edits.extend([("link", name, *item) for item in links if item[1] is None])
    edits.extend([("link", name, *item) for item in links if item[1] is not None])
    edits.extend([("merge", name, merge) for merge in other.merges if merge not in one.merges])
    for axis, old, new in (("columns", one.columns, other.columns), ("rows", one.rows, other.rows)):
        edits.extend([("setting", name, axis, *item) for item in _changed_items(old, new, (None, False, PLAIN))])
    if one.frozen != other.frozen:
        edits.append(("freeze", name, *other.frozen))
    if one.hidden != other.hidden:
        edits.append(("hide", name, other.hidden))
    return edits


def _changed_items(one, other, default):
    """The list of the items that are new or others than before, those that go being the default; ascending."""
    old = {item[0]: item[1:] for item in one}
    new = {item[0]: item[1:] for item in other}
    changed = []
    for at in sorted({**old, **new}):
        # Of equal items only the first parts can be of two kinds: values of cells, like 1 and True.
        before, *rest = old.get(at, default)
        behind, *rest_behind = new.get(at, default)
        if rest != rest_behind or not same(before, behind):
            changed.append((at, behind, *rest_behind))
    return changed


def _differences_of_names(one, other):
    old = {item[:2]: item[2] for item in one.names}
    new = {item[:2]: item[2] for item in other.names}
    edits = [("name", *pair, None) for pair in old if pair not in new]
    used = {}
    for scope, word in old:
        if (scope, word) in new:
            used.setdefault(scope, {})[word] = words_of(old[(scope, word)])
    waiting = [item for item in other.names if item[:2] not in old or old[item[:2]] != item[2]]
    while waiting != []:
        item = waiting.pop(_first_free(waiting, used))
        used.setdefault(item[0], {})[item[1]] = words_of(item[2])
        edits.append(("name", *item))
    return edits


def _first_free(waiting, used):
    """The index of the first of some names that closes no ring with those of which the used words are told."""
    for at, (scope, word, tree) in enumerate(waiting):
        words = {inner: told for inner, told in used.get(scope, {}).items()}
        words[word] = words_of(tree)
        if ring_closed(words, word) is None:
            return at
    # There is always one, because the other book has no rings.
    return 0


# It stands here because it needs the functions above it.
STATES = {"cell": _state_of_cell, "link": _state_of_link, "setting": _state_of_setting, "freeze": _state_of_frozen,
          "hide": _state_of_hidden, "activate": _state_of_active, "name": _state_of_name}
