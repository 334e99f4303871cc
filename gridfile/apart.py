"""Edits of one book that were made apart, and are brought together."""

from gridfile.behind import NOTHING, edit_behind
from gridfile.doing import done, done_all
from gridfile.edits import check_edit, things_changed_by
from gridfile.errors import Absent, BadEdit, Conflict, Refused
from gridfile.model import check_book
from gridfile.nodes import has_sheet_name
from gridfile.parts import covers, meet
from gridfile.values import same


def together(book, e, f):
    """The pair of what the first edit becomes behind the second one, and of what this becomes behind the first."""
    _check(book, e, f)
    return _brought(book, e, f)


def carried(book, e, f):
    """What the first edit becomes behind the second one."""
    _check(book, e, f)
    return _brought(book, e, f)[0]


def conflict(book, e, f):
    """The word of the first reason for which two edits conflict, or None."""
    _check(book, e, f)
    try:
        _brought(book, e, f)
    except Conflict as found:
        return found.word
    return None


def together_rows(book, es, fs):
    """The pair of tuples that bring two tuples of edits together, edit by edit."""
    check_book(book)
    for edits in (es, fs):
        if not isinstance(edits, tuple):
            raise BadEdit(edits)
        for edit in edits:
            _check_single(edit)
        done_all(book, edits)
    ahead = []
    behind = list(fs)
    for e in es:
        here = book
        left, following = e, []
        for f in behind:
            brought = _brought(here, left, f)
            here = done(here, f)
            left = brought[0]
            following.append(brought[1])
        ahead.append(left)
        book = done(book, e)
        behind = following
    return tuple(ahead), tuple(behind)


def _check_single(value):
    check_edit(value)
    if value[0] == "all":
        raise BadEdit(value)


def _check(book, e, f):
    """Raises what is wrong with the arguments, also what each edit alone raises."""
    check_book(book)
    for edit in (e, f):
        _check_single(edit)
    for edit in (e, f):
        done(book, edit)


def _brought(book, e, f):
    """The pair of what each edit becomes behind the other one; there may be nothing of them."""
    if NOTHING in (e, f):
        return e, f
    if _are_alike(e, f):
        return NOTHING, NOTHING
    for word, holds in REASONS.items():
        if holds(e, f) or holds(f, e):
            raise Conflict(word)
    try:
        pair = _pair(e, f)
        done(done(book, f), pair[0])
        done(done(book, e), pair[1])
    except (Refused, Absent):
        raise Conflict("refused") from None
    return pair


def _pair(e, f):
    behind = edit_behind(f, e)
    if e[0] in ("add", "order") and f[0] in ("add", "order") and e[2] == f[2]:
        behind = (*behind[:2], e[1])
    return edit_behind(e, f), behind


def _are_alike(e, f):
    """Whether both edits change the same thing, or order, rename or remove the same sheet, alike."""
    return same(e, f) and (things_changed_by(e) != () or e[0] in ("order", "rename", "remove"))


def _is_of_same_thing(e, f):
    if e[0] == f[0] and e[0] in ("order", "rename"):
        return e[1] == f[1]
    return things_changed_by(e) != () and things_changed_by(e) == things_changed_by(f)


def _is_merged_over(e, f):
    """Whether the first edit makes a merge that meets one of the other or covers what this gives."""
    if e[0] != "merge" or e[1] != f[1]:
        return False
    if f[0] == "merge":
        return meet(e[2], f[2])
    if f[0] == "cell" and (f[3] is not None or f[4] is not None) or f[0] == "link" and f[3] is not None:
        return covers(e[2], (*f[2], *f[2]))
    return False


def _do_touch(e, f):
    """Whether the first edit inserts where the other one deletes, or directly beside."""
    if (e[0], f[0]) != ("insert", "delete") or e[1:3] != f[1:3]:
        return False
    return f[3] <= e[3] <= f[3] + f[4]


def _is_removed(e, f):
    """Whether the first edit removes a sheet that the other one needs."""
    if e[0] != "remove":
        return False
    if f[0] in ("insert", "delete", "rename", "activate"):
        return f[1] == e[1]
    return f[0] in ("add", "order") and f[2] == e[1]


def _is_ordered(e, f):
    """Whether the first edit orders a sheet that the other one has as its behind."""
    return e[0] == "order" and f[0] in ("add", "order") and f[2] == e[1]


def _is_named(e, f):
    """Whether the first edit gives a sheet a new name to which the other one has a reference."""
    if e[0] != "rename" or e[1] == e[2] or f[0] not in ("cell", "name"):
        return False
    tree = f[4] if f[0] == "cell" else f[3]
    return tree is not None and has_sheet_name(tree, e[2])


# It stands here because it needs the functions above it; the first reason that holds is told.
REASONS = {"thing": _is_of_same_thing, "merge": _is_merged_over, "touch": _do_touch, "removed": _is_removed,
           "behind": _is_ordered, "name": _is_named}
