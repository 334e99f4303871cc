"""The defined names of books: what they mean, what they use, and rings of them."""

from gridfile.checks import is_row
from gridfile.definitions import MOST_NAMES, can_define, first_ring, is_definition, ring_closed
from gridfile.errors import BadNames, BadTree, BadWord, NoName, RingOfNames, TooMuch
from gridfile.model import check_book, right_book
from gridfile.nodes import words_of
from gridfile.words import is_name_word


def meaning_of(book, scope, word):
    """The pair (scope, word) of the defined name that a word means in a scope, or None."""
    _check_scope(book, scope)
    return _meaning(_trees_of(book), scope, word)


def uses_of(book, scope, word):
    """The tuple of the pairs (scope, word) that a name uses, by their words."""
    _check_name(book, scope, word)
    return _uses(_trees_of(book), scope, word)


def order_of(book):
    """The least order of the names: a tuple of pairs (scope, word)."""
    check_book(book)
    trees = _trees_of(book)
    users = {pair: [] for pair in trees}
    missing = {}
    for scope, word in trees:
        used = _uses(trees, scope, word)
        missing[(scope, word)] = len(used)
        for pair in used:
            users[pair].append((scope, word))
    order = []
    while missing != {}:
        # There is one, because names of a book make no rings.
        first = [pair for pair in missing if missing[pair] == 0][0]
        del missing[first]
        order.append(first)
        for user in users[first]:
            missing[user] -= 1
    return tuple(order)


def ring_of(names):
    """The ring that the first of the names closes that closes one with those before it, or None."""
    if not is_row(names):
        raise BadNames(None)
    known = {}
    for at, item in enumerate(names):
        if at == MOST_NAMES or not is_definition(item) or item[:2] in known:
            raise BadNames(at)
        known[item[:2]] = True
    found = first_ring(names)
    return None if found is None else found[1]


def with_name(book, scope, word, tree):
    """A new book with this defined name, new or instead of the old one."""
    _check_scope(book, scope)
    if not is_name_word(word):
        raise BadWord(word)
    if not can_define(scope, tree):
        raise BadTree(tree)
    names = [item for item in book.names if item[:2] != (scope, word)] + [(scope, word, tree)]
    if len(names) > MOST_NAMES:
        raise TooMuch(MOST_NAMES)
    ring = ring_closed({item[1]: words_of(item[2]) for item in names if item[0] == scope}, word)
    if ring is not None:
        raise RingOfNames(tuple([(scope, inner) for inner in ring]))
    return right_book(book.sheets, book.active, names_in_order(book.sheets, names))


def without_name(book, scope, word):
    """A new book without this defined name."""
    _check_name(book, scope, word)
    names = tuple([item for item in book.names if item[:2] != (scope, word)])
    return right_book(book.sheets, book.active, names)


def users_of(book, scope, word):
    """The list of what uses a defined name: ("name", scope, word), then ("cell", sheet name, place)."""
    _check_name(book, scope, word)
    trees = _trees_of(book)
    users = [("name", *pair) for pair in trees if (scope, word) in _uses(trees, pair[0], pair[1])]
    for sheet in book.sheets:
        if _meaning(trees, sheet.name, word) == (scope, word):
            for cell in sheet.cells:
                if cell[2] is not None and word in words_of(cell[2]):
                    users.append(("cell", sheet.name, cell[0]))
    return users


def names_in_order(sheets, names):
    """The tuple of these defined names in the order that they have in a book with these sheets."""
    ranks = {None: 0}
    for at, sheet in enumerate(sheets):
        ranks[sheet.name] = at + 1
    placed = sorted([(ranks[item[0]], item[1], item) for item in names], key=lambda row: (row[0], row[1]))
    return tuple([row[2] for row in placed])


def _check_scope(book, scope):
    check_book(book)
    if scope is not None:
        # It raises the error if there is no such sheet.
        book.number_of(scope)


def _check_name(book, scope, word):
    _check_scope(book, scope)
    if not isinstance(word, str) or (scope, word) not in _trees_of(book):
        raise NoName((scope, word))


def _trees_of(book):
    """The trees of the names by the pairs (scope, word), in the order of the names."""
    return {(scope, word): tree for scope, word, tree in book.names}


def _meaning(trees, scope, word):
    """As meaning_of, by the trees of the names of a book."""
    if not isinstance(word, str):
        return None
    for pair in ((scope, word), (None, word)):
        if pair in trees:
            return pair
    return None


def _uses(trees, scope, word):
    """As uses_of, by the trees of the names of a book."""
    meanings = [_meaning(trees, scope, inner) for inner in words_of(trees[(scope, word)])]
    return tuple([pair for pair in meanings if pair is not None])
