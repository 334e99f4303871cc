"""Defined names, and the rings in which they would use each other."""

from gridfile.checks import is_row, is_tuple_of
from gridfile.nodes import has_fixed_parts_only, references_of, words_of
from gridfile.trees import is_tree
from gridfile.words import is_name_word, is_sheet_name

MOST_NAMES = 200


def can_define(scope, tree):
    """Whether a value of any kind is a tree that can stand in a name of this scope."""
    if not is_tree(tree) or not has_fixed_parts_only(tree):
        return False
    return scope is not None or all(node[1] is not None for _, node in references_of(tree))


def is_definition(value):
    """Whether a value of any kind is a defined name, with any name of a sheet as its scope."""
    if not is_tuple_of(value, 3):
        return False
    scope, word, tree = value
    return (scope is None or is_sheet_name(scope)) and is_name_word(word) and can_define(scope, tree)


def wrong_name(names, sheets):
    """What is wrong with the names of a book whose sheets have these names: (index,), (None,) or None."""
    if not is_row(names):
        return (None,)
    stop = _first_misplaced(names, sheets)
    found = first_ring(names[:stop])
    if found is not None:
        return (found[0],)
    return None if stop == len(names) else (stop,)


def first_ring(names):
    """The pair (index, ring) for the first of these names that closes a ring, or None."""
    used = {}
    for at, (scope, word, tree) in enumerate(names):
        # A ring lies in one scope, so the words of other scopes need not be followed.
        used_in_scope = used.setdefault(scope, {})
        used_in_scope[word] = words_of(tree)
        ring = ring_closed(used_in_scope, word)
        if ring is not None:
            return at, tuple([(scope, inner) for inner in ring])
    return None


def ring_closed(used, word):
    """The words of the ring that begins with this one, by the words that each of a scope uses, or None.

    It is the shortest ring, and of several the first by its words: each layer has the words that are reached in
    so many steps, in the order of the first ways to them.
    """
    before = {}
    layer = [word]
    while layer != []:
        following = []
        for last in layer:
            for inner in used[last]:
                if inner == word:
                    return _way(before, word, last)
                if inner in used and inner not in before:
                    before[inner] = last
                    following.append(inner)
        layer = following
    return None


def _way(before, first, last):
    """The words from the first to the last one, by the word before each."""
    way = [last]
    while way[-1] != first:
        way.append(before[way[-1]])
    return way[::-1]


def _first_misplaced(names, sheets):
    """The index of the first that is no name of a book, or out of order, or one too many; or how many there are."""
    ranks = {name: at for at, name in enumerate((None, *sheets))}
    before = None
    for at, item in enumerate(names):
        if at == MOST_NAMES or not is_definition(item) or item[0] not in ranks:
            return at
        place = (ranks[item[0]], item[1])
        if before is not None and place <= before:
            return at
        before = place
    return len(names)
