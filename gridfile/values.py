"""Values and styles of cells, and what is the same."""

from gridfile.checks import SIGNS, is_integer, is_one_of, is_text, is_tuple_of
from gridfile.lines import is_string

PLAIN = ("", ("Plain", 10, False, False), None, (0, 0, 0, 0), ("general", False))
MOST_NUMBER = 10 ** 15
MOST_VALUE = 200
MOST_FORMAT = 40
MOST_FONT_NAME = 31
MOST_FONT_SIZE = 400
MOST_COLOR = 16777215
MOST_BORDER = 3
ERROR_WORDS = ("REF", "NAME", "VALUE", "DIV")
ALIGN_WORDS = ("general", "left", "center", "right")


def is_value(value):
    """Whether a value of any kind is a value of a cell."""
    if value is None or isinstance(value, bool):
        return True
    if is_tuple_of(value, 2):
        return is_one_of(value[0], ("error",)) and is_one_of(value[1], ERROR_WORDS)
    return is_integer(value, -MOST_NUMBER, MOST_NUMBER) or is_short_string(value)


def is_short_string(value):
    """Whether a value of any kind is a string as values and texts in formulas have them."""
    return is_string(value) and len(value) <= MOST_VALUE


def is_style(value):
    """Whether a value of any kind is a style."""
    if not is_tuple_of(value, 5):
        return False
    # Sheets have thousands of styles, so this does not go by way of the table below.
    text, font, fill, border, align = value
    return _is_format(text) and _is_font(font) and _is_fill(fill) and _is_border(border) and _is_align(align)


def is_style_part(at, value):
    """Whether a value of any kind can stand at this index of a style."""
    check = PART_CHECKS[at]
    return check(value)


def same(one, other):
    """Whether two values, styles, trees or tuples of such have the same kinds and contents."""
    if not (type(one) is type(other)):
        return False
    if not isinstance(one, tuple):
        return one == other
    if len(one) != len(other):
        return False
    for part, another in zip(one, other):
        if not same(part, another):
            return False
    return True


def _is_format(value):
    return is_text(value, 0, MOST_FORMAT, SIGNS)


def _is_font(value):
    if not is_tuple_of(value, 4) or not is_text(value[0], 1, MOST_FONT_NAME, SIGNS):
        return False
    return is_integer(value[1], 1, MOST_FONT_SIZE) and isinstance(value[2], bool) and isinstance(value[3], bool)


def _is_fill(value):
    return value is None or is_integer(value, 0, MOST_COLOR)


def _is_border(value):
    if not is_tuple_of(value, 4):
        return False
    for edge in value:
        if not is_integer(edge, 0, MOST_BORDER):
            return False
    return True


def _is_align(value):
    return is_tuple_of(value, 2) and is_one_of(value[0], ALIGN_WORDS) and isinstance(value[1], bool)


# It stands here because it needs the functions above it.
PART_CHECKS = (_is_format, _is_font, _is_fill, _is_border, _is_align)
