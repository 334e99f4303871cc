"""Formulas: trees printed and read, and the tokens and parentheses of their texts."""

from gridfile.checks import is_integer
from gridfile.cutting import check_text, cut
from gridfile.errors import BadFormula, BadTree, NoPart
from gridfile.growing import grown_tree
from gridfile.printing import printed
from gridfile.trees import check_tree


def read_formula(text):
    """The tree of a formula."""
    tree = grown_tree(text, False)
    check_tree(tree)
    return tree


def is_formula(value):
    """Whether a value of any kind is a formula."""
    try:
        read_formula(value)
    except (BadFormula, BadTree):
        return False
    return True


def print_formula(tree):
    """The printed formula of a tree."""
    check_tree(tree)
    return "=" + printed(tree)


def tokens(text):
    """The list of the tokens of a text as they stand, which need not make a formula."""
    check_text(text)
    found = cut(text, False)
    for kind, at, _ in found:
        if kind == "none":
            raise BadFormula(at)
        if kind in ("open text", "open sheet"):
            raise BadFormula(len(text))
    return [word for _, _, word in found]


def normal(text):
    """The printed formula of the tree that is read."""
    return print_formula(read_formula(text))


def pairs(text):
    """The list of the pairs (first, last) of the indexes of parentheses, those of calls aside, ascending."""
    read_formula(text)
    found = []
    waiting = []
    for kind, at, _ in cut(text, False):
        if kind in ("(", "function"):
            waiting.append((kind, at))
        elif kind == ")":
            opening, first = waiting.pop()
            if opening == "(":
                found.append((first, at))
    return sorted(found)


def needless(text):
    """How many pairs of parentheses fewer the printed formula has."""
    return len(pairs(text)) - len(pairs(normal(text)))


def without_pair(text, number):
    """The text with spaces for the parentheses of one pair."""
    found = pairs(text)
    if not is_integer(number, 0, len(found) - 1):
        raise NoPart((number,))
    first, last = found[number]
    return text[:first] + " " + text[first + 1:last] + " " + text[last + 1:]
