"""Relationships: the lines that lead from part to part, and the parts of files that they reach."""

from gridfile.checks import is_integer, is_one_of, number_in
from gridfile.errors import BadFile, BadNumber, BadPath, BadWord
from gridfile.lines import is_line, is_word, lines_of
from gridfile.parts import is_target

TYPES = ("book", "strings", "styles", "sheet", "outer")
# The types of the relationships of a book.
BOOK_TYPES = ("strings", "styles", "sheet")
MOST_NUMBERED = 9999999
START = "links"
ENDING = ".links"


def links_of(path):
    """The path of the part with the relationships of a part, or of the whole file for an empty path."""
    if not isinstance(path, str):
        raise BadPath(path)
    return START if path == "" else path + ENDING


def is_path(value):
    """Whether a value of any kind is a path to which a relationship can lead."""
    return is_word(value) and value != START and not value.endswith(ENDING)


def relationship_line(number, sort, target):
    """The line of a relationship."""
    if not is_integer(number, 1, MOST_NUMBERED):
        raise BadNumber(number)
    if not is_one_of(sort, TYPES):
        raise BadWord(sort)
    if not _can_lead_to(sort, target):
        raise BadPath(target)
    return (f"r{number}", sort, (target,) if sort == "outer" else target)


def relationship_of(line):
    """The triple (number, sort, target) of the line of a relationship, None for every other value."""
    if not is_line(line) or len(line) != 3 or not is_one_of(line[1], TYPES):
        return None
    number = relationship_number(line[0])
    if number is None or isinstance(line[2], tuple) != (line[1] == "outer"):
        return None
    target = line[2][0] if line[1] == "outer" else line[2]
    return (number, line[1], target) if _can_lead_to(line[1], target) else None


def relationship_number(item):
    """The number of the relationship that an item of a line names, or None."""
    return number_in(item[1:], 1, MOST_NUMBERED) if isinstance(item, str) and item.startswith("r") else None


def ways(file):
    """The way to each reached path, a tuple of pairs (path, line number), in the order in which they are reached."""
    check_file(file)
    found = {}
    if START in file:
        found[START] = ()
        books = {}
        for number, _, target in _leading(file[START], ("book",)):
            books.setdefault(target, number)
        for target, number in books.items():
            _reach(file, found, target, ((START, number),))
            _reach_links(file, found, target)
            _reach_parts(file, found, links_of(target))
    return found


def unreached(file):
    """The ascending tuple of the paths that are not reached."""
    reached = ways(file)
    return tuple(sorted([path for path in file if path not in reached]))


def check_file(file):
    """Raises BadFile for what is no file, with its first wrong path if it is a dict."""
    if not isinstance(file, dict):
        raise BadFile(None)
    for path, text in file.items():
        if not isinstance(path, str) or not isinstance(text, str):
            raise BadFile(path)


def _can_lead_to(sort, target):
    """Whether a value of any kind can be the target of a relationship of this type."""
    return is_target(target) if sort == "outer" else is_path(target)


def _leading(text, sorts):
    """The list of the triples (line number, sort, target) of the relationships of these types in a text."""
    found = []
    for at, line in enumerate(lines_of(text)):
        relationship = relationship_of(line)
        if relationship is not None and relationship[1] in sorts:
            found.append((at + 1, *relationship[1:]))
    return found


def _reach(file, found, path, way):
    """Keeps the first way to a path, if there is a part."""
    if path in file and path not in found:
        found[path] = way


def _reach_links(file, found, path):
    """The relationships of a part have the way of the part itself."""
    if path in found:
        _reach(file, found, links_of(path), found[path])


def _reach_parts(file, found, inner):
    """Reaches what the relationships of a book lead to, inner being the path at which these stand."""
    if inner not in found:
        return
    for number, sort, target in _leading(file[inner], BOOK_TYPES):
        _reach(file, found, target, (*found[inner], (inner, number)))
        if sort == "sheet":
            _reach_links(file, found, target)
