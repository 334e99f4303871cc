"""Trees of formulas and their relative forms: what they are, and what stands in them."""

from gridfile.checks import is_integer, is_one_of, is_tuple_of
from gridfile.errors import BadSheetName, BadTree, NoPart
from gridfile.nodes import (LEVELS, depth_of, has_fixed_parts_only, level_in, nodes_of, own_weight, references_of,
                            trees_in, with_tree, words_of)
from gridfile.places import MOST_COLUMN, MOST_ROW, is_place, rectangle_of
from gridfile.values import MOST_NUMBER, is_short_string
from gridfile.words import is_call_word, is_name_word, is_sheet_name

MOST_DEPTH = 20
MOST_WEIGHT = 1999
MOST_CALLED = 30
TREE_ERRORS = ("NAME", "VALUE", "DIV")
# How many items the references of trees, and of forms, have.
TREE_SIZES = {"cell": 3, "range": 4}
FORM_SIZES = {"rcell": 3, "rrange": 4}


def is_tree(value):
    """Whether a value of any kind is a tree."""
    return _first_wrong(value, False) is None


def is_form(value):
    """Whether a value of any kind is a relative form."""
    return _first_wrong(value, True) is None


def wrong_at(value):
    """The path of the first tree in it that is wrong, too deep or too heavy, or None for a tree."""
    return _first_wrong(value, False)


def check_tree(value):
    """Raises BadTree for what is no tree."""
    if not is_tree(value):
        raise BadTree(value)


def depth(tree):
    """How deep a tree or form is; one without trees in it is 1 deep."""
    _check_either(tree)
    return depth_of(tree)


def weight(tree):
    """The weight of a tree or form."""
    _check_either(tree)
    return sum([own_weight(node) for _, node in nodes_of(tree)])


def level_of(tree):
    """The level of a tree or form, which tells how closely its sign binds."""
    _check_either(tree)
    return level_in(tree)


def how_many(tree):
    """The number of trees in a tree or form, itself too."""
    _check_either(tree)
    return len(nodes_of(tree))


def each_node(tree):
    """Yields the pairs (path, tree) of a tree or form, in reading order."""
    _check_either(tree)
    for path, node in nodes_of(tree):
        yield (path, node)


def node_at(tree, path):
    """The tree to which a path leads in a tree or form."""
    _check_either(tree)
    return _led_to(tree, path)


def replaced(tree, path, other):
    """The tree with another one where the path leads."""
    check_tree(tree)
    _led_to(tree, path)
    check_tree(other)
    result = with_tree(tree, path, other)
    check_tree(result)
    return result


def references(tree):
    """The list of the pairs (path, reference) of a tree or form, in reading order."""
    _check_either(tree)
    return references_of(tree)


def rectangle_of_reference(tree):
    """The rectangle of a cell or range."""
    check_tree(tree)
    if tree[0] not in ("cell", "range"):
        raise BadTree(tree)
    return rectangle_of(tree[2][:2], tree[-1][:2])


def sheets_in(tree):
    """The names of the sheets in the references of a tree or form, ascending."""
    _check_either(tree)
    return tuple(sorted({node[1] for _, node in references_of(tree) if node[1] is not None}))


def words_in(tree):
    """The words of the names in a tree or form, ascending."""
    _check_either(tree)
    return words_of(tree)


def functions_in(tree):
    """The words of the calls in a tree or form, ascending."""
    _check_either(tree)
    return tuple(sorted({node[1] for _, node in nodes_of(tree) if node[0] == "call"}))


def lost_in(tree):
    """How many references of a tree or form are lost."""
    _check_either(tree)
    return len([node for _, node in nodes_of(tree) if node[0] == "lost"])


def with_sheet(tree, old, new):
    """The tree with the sheet new (or None) in all references that have the sheet old (or None)."""
    check_tree(tree)
    for name in (old, new):
        if name is not None and not is_sheet_name(name):
            raise BadSheetName(name)
    result = tree
    for path, node in references_of(tree):
        if node[1] == old:
            result = with_tree(result, path, (node[0], new, *node[2:]))
    check_tree(result)
    return result


def is_all_fixed(tree):
    """Whether all parts of references in a tree are fixed in both numbers."""
    check_tree(tree)
    return has_fixed_parts_only(tree)


def _check_either(value):
    if not is_tree(value) and not is_form(value):
        raise BadTree(value)


def _led_to(tree, path):
    if isinstance(path, tuple) and all(is_integer(step, 0, MOST_CALLED) for step in path):
        for steps, node in nodes_of(tree):
            if steps == path:
                return node
    raise NoPart(path)


def _first_wrong(value, relative):
    """As wrong_at, for a form if relative is True."""
    waiting = [((), value, 1)]
    total = 0
    # Each right tree adds to the weight, so the limit ends this soon, however often a part stands in the value.
    while waiting:
        path, node, deep = waiting.pop()
        if deep > MOST_DEPTH or not _is_right_alone(node, relative):
            return path
        total += own_weight(node)
        if total > MOST_WEIGHT:
            return path
        for steps, inner in trees_in(node)[::-1]:
            waiting.append((path + steps, inner, deep + 1))
    return None


def _is_right_alone(node, relative):
    """Whether a value of any kind is a tree, or form, apart from the trees in it."""
    if not isinstance(node, tuple) or node == () or not isinstance(node[0], str):
        return False
    if node[0] in CHECKS:
        check = CHECKS[node[0]]
        return check(node)
    if relative:
        return len(node) == FORM_SIZES.get(node[0]) and _is_reference(node, _is_form_part)
    return len(node) == TREE_SIZES.get(node[0]) and _is_reference(node, _is_tree_part)


def _is_reference(node, is_part):
    return (node[1] is None or is_sheet_name(node[1])) and all(is_part(part) for part in node[2:])


def _is_tree_part(part):
    return _has_marks(part) and is_place(part[:2])


def _is_form_part(part):
    if not _has_marks(part):
        return False
    return _is_form_number(part[0], part[2], MOST_ROW) and _is_form_number(part[1], part[3], MOST_COLUMN)


def _has_marks(part):
    return is_tuple_of(part, 4) and isinstance(part[2], bool) and isinstance(part[3], bool)


def _is_form_number(number, is_fixed, most):
    if is_fixed:
        return is_integer(number, 1, most)
    return is_integer(number, 1 - most, most - 1)


def _is_number(node):
    return len(node) == 2 and is_integer(node[1], 0, MOST_NUMBER)


def _is_text(node):
    return len(node) == 2 and is_short_string(node[1])


def _is_truth(node):
    return len(node) == 2 and isinstance(node[1], bool)


def _is_error(node):
    return len(node) == 2 and is_one_of(node[1], TREE_ERRORS)


def _is_lost(node):
    return len(node) == 1


def _is_name(node):
    return len(node) == 2 and is_name_word(node[1])


def _is_call(node):
    if len(node) != 3 or not is_call_word(node[1]):
        return False
    return isinstance(node[2], tuple) and len(node[2]) <= MOST_CALLED


def _is_op(node):
    return len(node) == 4 and isinstance(node[1], str) and node[1] in LEVELS


def _is_minus(node):
    return len(node) == 2


# It stands here because it needs the functions above it.
CHECKS = {"number": _is_number, "text": _is_text, "truth": _is_truth, "error": _is_error, "lost": _is_lost,
          "name": _is_name, "call": _is_call, "op": _is_op, "minus": _is_minus}
