"""Which lines of a part are kept: what they claim, which of them disagree, and what is full."""

from gridfile.definitions import MOST_NAMES, ring_closed
from gridfile.model import MOST_CELLS, MOST_SHEETS
from gridfile.nodes import words_of
from gridfile.offsets import room_of_form
from gridfile.parts import MOST_LINKS, MOST_MERGES, covers, meet
from gridfile.places import places_in, size_of

# The types of relationships of which a part keeps one.
ONLY_TYPES = ("book", "strings", "styles")


def keys_of(kind, told):
    """The list of what a line claims for itself: two lines that claim the same disagree."""
    if kind in ("links", "parts", "outer"):
        return _keys_of_relationship(told)
    if kind == "book":
        return _keys_in_book(told)
    if kind == "sheet":
        return _keys_in_sheet(told)
    return [told[:2]]


def do_disagree(kind, one, other):
    """Whether what two lines of a part tell does not go together."""
    claimed = {key: True for key in keys_of(kind, one)}
    if any([key in claimed for key in keys_of(kind, other)]):
        return True
    return kind == "sheet" and (_is_merged_over(one, other) or _is_merged_over(other, one))


def content_of(told):
    """The rectangle to which a line of a sheet gives a value, formula or link, or None."""
    if told[0] == "formula":
        return told[1]
    if told[0] == "link" or told[0] == "cell" and told[2] is not None:
        return (*told[1], *told[1])
    return None


class Keeper:
    """The kept lines of a part, which takes one line after the other."""

    def __init__(self, kind, barred):
        """No relationship may lead to the barred path, if it is not None."""
        self._kind = kind
        self._barred = barred
        self._owners = {}
        self._many = {}
        self._places = {}
        self._merges = []
        # The first line that gives a value, formula or link to a place.
        self._contents = {}
        # The words that each name uses, by scopes.
        self._used = {}

    def take(self, number, told):
        """Keeps the line with this number and gives None, or the pair (code, other line) for which it is not kept."""
        if told[0] == "formula" and not _is_in_room(told):
            return ("off", None)
        if self._kind == "parts" and told[2] == self._barred:
            return ("again", None)
        keys = keys_of(self._kind, told)
        against = [self._owners[key] for key in keys if key in self._owners]
        if self._kind == "sheet":
            against.extend(self._merged_with(told))
        if against != []:
            return ("again", min(against))
        if self._is_full(told):
            return ("full", None)
        if (self._kind, told[0]) == ("book", "name"):
            ring = self._ring_of(told)
            if ring is not None:
                return ("ring", None if len(ring) == 1 else self._owners[("name", told[1], ring[1])])
        self._keep(number, told, keys)
        return None

    def _merged_with(self, told):
        """The list of the kept lines that disagree with a line of a sheet because one of both is a merge."""
        if told[0] == "merge":
            merged = [number for number, merge in self._merges if meet(merge, told[1])]
            return merged + [self._contents[place] for place in self._covered_by(told[1])]
        rectangle = content_of(told)
        if rectangle is None:
            return []
        return [number for number, merge in self._merges if covers(merge, rectangle)]

    def _covered_by(self, merge):
        """The list of the places with a value, formula or link that a merge covers."""
        # Merges can have very many places, sheets only some.
        if size_of(merge) < len(self._contents):
            places = [place for place in places_in(merge) if place in self._contents]
        else:
            places = [place for place in self._contents if meet(merge, (*place, *place))]
        return [place for place in places if place != merge[:2]]

    def _is_full(self, told):
        if self._kind == "sheet" and told[0] in ("cell", "formula"):
            more = [place for place in _places_of(told) if place not in self._places]
            return len(self._places) + len(more) > MOST_CELLS
        limits = {("book", "sheet"): MOST_SHEETS, ("book", "name"): MOST_NAMES, ("sheet", "merge"): MOST_MERGES,
                  ("sheet", "link"): MOST_LINKS}
        sort = (self._kind, told[0])
        return sort in limits and self._many.get(told[0], 0) == limits[sort]

    def _ring_of(self, told):
        """The words of the ring that a name closes, or None, which leaves the words that it uses known."""
        _, scope, word, tree = told
        used = self._used.setdefault(scope, {})
        used[word] = words_of(tree)
        ring = ring_closed(used, word)
        if ring is not None:
            del used[word]
        return ring

    def _keep(self, number, told, keys):
        for key in keys:
            self._owners[key] = number
        self._many[told[0]] = self._many.get(told[0], 0) + 1
        if self._kind == "sheet":
            if told[0] == "merge":
                self._merges.append((number, told[1]))
            if told[0] in ("cell", "formula"):
                for place in _places_of(told):
                    self._places[place] = True
            rectangle = content_of(told)
            if rectangle is not None:
                for place in places_in(rectangle):
                    self._contents.setdefault(place, number)


def _is_in_room(told):
    """Whether a formula line has no place outside of the room of its form."""
    room = room_of_form(told[2])
    top, left, bottom, right = told[1]
    return room is not None and room[0] <= top and room[1] <= left and bottom <= room[2] and right <= room[3]


def _places_of(told):
    """The list of the places of a cell or formula line."""
    return [told[1]] if told[0] == "cell" else list(places_in(told[1]))


def _is_merged_over(one, other):
    """Whether the first line is a merge that meets the other one or covers what this gives."""
    if one[0] != "merge":
        return False
    if other[0] == "merge":
        return meet(one[1], other[1])
    rectangle = content_of(other)
    return rectangle is not None and covers(one[1], rectangle)


def _keys_of_relationship(told):
    sort, number, target = told
    keys = [("relationship", number)]
    if sort != "outer":
        keys.append(("path", target))
    if sort in ONLY_TYPES:
        keys.append(("only", sort))
    return keys


def _keys_in_book(told):
    if told[0] == "active":
        return [("active",)]
    if told[0] == "name":
        return [told[:3]]
    _, number, name, relationship, _ = told
    return [("sheet", number), ("sheet name", name.lower()), ("relationship", relationship)]


def _keys_in_sheet(told):
    if told[0] == "frozen":
        return [("frozen",)]
    if told[0] in ("columns", "rows"):
        return [(told[0], number) for number in range(told[1], told[2] + 1)]
    if told[0] == "formula":
        return [("formula", place) for place in places_in(told[1])]
    return [] if told[0] == "merge" else [told[:2]]
