"""The grid: places, columns, rectangles and their names."""

from gridfile.checks import CAPITALS, DIGITS, is_integer, is_made_of, is_tuple_of
from gridfile.errors import BadPlace, BadRectangle

MOST_ROW = 9999
MOST_COLUMN = 702


def is_place(value):
    """Whether a value of any kind is a pair (row, column) of the grid."""
    if not is_tuple_of(value, 2):
        return False
    return is_integer(value[0], 1, MOST_ROW) and is_integer(value[1], 1, MOST_COLUMN)


def is_rectangle(value):
    """Whether a value of any kind is a tuple (top, left, bottom, right) of the grid."""
    if not is_tuple_of(value, 4) or not is_place(value[:2]) or not is_place(value[2:]):
        return False
    top, left, bottom, right = value
    return top <= bottom and left <= right


def check_place(value):
    """Raises BadPlace for what is no place."""
    if not is_place(value):
        raise BadPlace(value)


def check_rectangle(value):
    """Raises BadRectangle for what is no rectangle."""
    if not is_rectangle(value):
        raise BadRectangle(value)


def column_name(column):
    """The name of a column: A to Z, AA to ZZ."""
    if not is_integer(column, 1, MOST_COLUMN):
        raise BadPlace(column)
    if column <= len(CAPITALS):
        return CAPITALS[column - 1]
    first, second = divmod(column - 1 - len(CAPITALS), len(CAPITALS))
    return CAPITALS[first] + CAPITALS[second]


def place_name(place):
    """The name of a place, like AB12."""
    check_place(place)
    return f"{column_name(place[1])}{place[0]}"


def rectangle_name(rectangle):
    """The name of a rectangle, like A1:B2."""
    check_rectangle(rectangle)
    return f"{place_name(rectangle[:2])}:{place_name(rectangle[2:])}"


def column_number(text):
    """The column with this name."""
    number = _named_column(text)
    if number is None:
        raise BadPlace(text)
    return number


def place_at(text):
    """The place with this name."""
    place = _named_place(text)
    if place is None:
        raise BadPlace(text)
    return place


def rectangle_at(text):
    """The rectangle with this name."""
    rectangle = _named_rectangle(text)
    if rectangle is None:
        raise BadRectangle(text)
    return rectangle


def rectangle_of(one, other):
    """The least rectangle that has both places."""
    check_place(one)
    check_place(other)
    return (*_least(one, other), *_greatest(one, other))


def has_place(rectangle, place):
    """Whether the place lies in the rectangle."""
    check_rectangle(rectangle)
    check_place(place)
    top, left, bottom, right = rectangle
    return top <= place[0] <= bottom and left <= place[1] <= right


def common(one, other):
    """The rectangle of the places that both have, or None."""
    check_rectangle(one)
    check_rectangle(other)
    shared = (*_greatest(one[:2], other[:2]), *_least(one[2:], other[2:]))
    return shared if is_rectangle(shared) else None


def hull(one, other):
    """The least rectangle that contains both."""
    check_rectangle(one)
    check_rectangle(other)
    return (*_least(one[:2], other[:2]), *_greatest(one[2:], other[2:]))


def size_of(rectangle):
    """How many places the rectangle has."""
    check_rectangle(rectangle)
    top, left, bottom, right = rectangle
    return (bottom - top + 1) * (right - left + 1)


def places_in(rectangle):
    """Yields the places of the rectangle, by rows."""
    check_rectangle(rectangle)
    top, left, bottom, right = rectangle
    for row in range(top, bottom + 1):
        for column in range(left, right + 1):
            yield (row, column)


def without(one, other):
    """The rectangles of one that other has not: above the common part, left, right, below."""
    shared = common(one, other)
    if shared is None:
        return (one,)
    top, left, bottom, right = shared
    above = (one[0], one[1], top - 1, one[3])
    before = (top, one[1], bottom, left - 1)
    behind = (top, right + 1, bottom, one[3])
    below = (bottom + 1, one[1], one[2], one[3])
    return tuple([part for part in (above, before, behind, below) if is_rectangle(part)])


def _least(one, other):
    return (min(one[0], other[0]), min(one[1], other[1]))


def _greatest(one, other):
    return (max(one[0], other[0]), max(one[1], other[1]))


def _named_column(text):
    """The column with this name, or None for a value of any kind that is no such name."""
    if not isinstance(text, str) or len(text) not in (1, 2) or not is_made_of(text, CAPITALS):
        return None
    number = 0
    for letter in text:
        number = number * len(CAPITALS) + CAPITALS.index(letter) + 1
    return number


def _named_place(text):
    """The place with this name, or None for a value of any kind that is no such name."""
    if not isinstance(text, str):
        return None
    letters = text.rstrip(DIGITS)
    digits = text[len(letters):]
    # Row numbers have at most four digits; longer ones are not worth reading.
    if not 1 <= len(digits) <= 4 or digits[0] == "0":
        return None
    column = _named_column(letters)
    return None if column is None else (int(digits), column)


def _named_rectangle(text):
    """The rectangle with this name, or None for a value of any kind that is no such name."""
    if not isinstance(text, str):
        return None
    first, _, last = text.partition(":")
    start = _named_place(first)
    end = _named_place(last)
    if start is None or end is None:
        return None
    rectangle = (*start, *end)
    return rectangle if is_rectangle(rectangle) else None
