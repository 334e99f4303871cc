"""Relative forms of trees: their texts, the rooms in which nothing is lost, and filling."""

from gridfile.errors import BadForm, NoPart
from gridfile.growing import grown_tree
from gridfile.nodes import REFERENCES, references_of
from gridfile.offsets import filled_tree, form_of, room_of_form, room_of_reference, tree_of
from gridfile.places import check_place
from gridfile.printing import printed
from gridfile.trees import check_tree, is_form, node_at


def relative(tree, place):
    """The relative form of a tree at a place."""
    check_tree(tree)
    check_place(place)
    return form_of(tree, place)


def absolute(form, place):
    """The tree that a form gives at a place."""
    _check_form(form)
    check_place(place)
    return tree_of(form, place)


def print_form(form):
    """The text of a form."""
    _check_form(form)
    return "=" + printed(form)


def read_form(text):
    """The form of a text."""
    form = grown_tree(text, True)
    _check_form(form)
    return form


def room(form):
    """The rectangle of the places at which nothing of a form is lost, or None if there are none."""
    _check_form(form)
    return room_of_form(form)


def room_of(form, path):
    """The room of the reference of a form to which a path leads."""
    _check_form(form)
    node = node_at(form, path)
    if node[0] not in REFERENCES:
        raise NoPart(path)
    return room_of_reference(node)


def fill(tree, start, goal):
    """The tree that filling from one place to another one makes of a tree."""
    _check_filling(tree, start, goal)
    return filled_tree(tree, start, goal)


def lost_by(tree, start, goal):
    """The list of the paths of the references that filling loses."""
    _check_filling(tree, start, goal)
    return [path for path, node in references_of(tree) if filled_tree(node, start, goal) == ("lost",)]


def same_form(tree, place, other, goal):
    """Whether a tree at one place and another one at another place have the same form."""
    check_tree(tree)
    check_place(place)
    check_tree(other)
    check_place(goal)
    return form_of(tree, place) == form_of(other, goal)


def _check_filling(tree, start, goal):
    check_tree(tree)
    check_place(start)
    check_place(goal)


def _check_form(value):
    if not is_form(value):
        raise BadForm(value)
