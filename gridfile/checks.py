"""What the checks of the other files have in common: signs, numbers and rows of items."""

SMALL = "abcdefghijklmnopqrstuvwxyz"
CAPITALS = "ABCDEFGHIJKLMNOPQRSTUVWXYZ"
DIGITS = "0123456789"
# From the space to ~, without the percent sign.
SIGNS = " !\"#$&'()*+,-./0123456789:;<=>?@ABCDEFGHIJKLMNOPQRSTUVWXYZ[\\]^_`abcdefghijklmnopqrstuvwxyz{|}~"


def is_integer(value, least, most):
    """Whether a value of any kind is an integer, no bool, from least to most."""
    return isinstance(value, int) and not isinstance(value, bool) and least <= value <= most


def number_in(item, least, most):
    """The integer from least to most that a value of any kind tells, without zeros in front, or None."""
    # What is longer is too great in any case, and not worth reading.
    if not is_text(item, 1, len(str(most)), DIGITS) or item[0] == "0" and item != "0":
        return None
    number = int(item)
    return number if least <= number <= most else None


def is_made_of(text, signs):
    """Whether a string has no other characters than these."""
    # Stripping stops at the first other character, so nothing is left only if there is none.
    return text.strip(signs) == ""


def is_text(value, least, most, signs):
    """Whether a value of any kind is a string of least to most characters, all of them signs."""
    return isinstance(value, str) and least <= len(value) <= most and is_made_of(value, signs)


def is_one_of(value, words):
    """Whether a value of any kind is one of these strings."""
    return isinstance(value, str) and value in words


def is_row(value):
    """Whether a value of any kind is a list or tuple, as rows of items are passed."""
    return isinstance(value, (list, tuple))


def is_tuple_of(value, many):
    """Whether a value of any kind is a tuple of so many items."""
    return isinstance(value, tuple) and len(value) == many
