"""Strings of the file, and lines of words and texts, written and read."""

from gridfile.checks import SIGNS, is_row, is_text
from gridfile.errors import BadLine

MOST_TEXT = 2000
MOST_WORD = 100
MOST_ITEMS = 20
TEXT_SIGNS = "\n !\"#$&'()*+,-./0123456789:;<=>?@ABCDEFGHIJKLMNOPQRSTUVWXYZ[\\]^_`abcdefghijklmnopqrstuvwxyz{|}~"
WORD_SIGNS = "!#$&'()*+,-./0123456789:;<=>?@ABCDEFGHIJKLMNOPQRSTUVWXYZ[]^_`abcdefghijklmnopqrstuvwxyz{|}~"
ESCAPED = {"\\": "\\", "n": "\n"}


def is_word(value):
    """Whether a value of any kind is a word of a line."""
    return is_text(value, 1, MOST_WORD, WORD_SIGNS)


def is_string(value):
    """Whether a value of any kind is a string of the file."""
    return is_text(value, 0, MOST_TEXT, TEXT_SIGNS)


def is_line(value):
    """Whether a value of any kind is a tuple of 1 to 20 words and texts."""
    if not isinstance(value, tuple) or not 1 <= len(value) <= MOST_ITEMS:
        return False
    return all(_is_item(item) for item in value)


def line_text(line):
    """The written form of a line."""
    if not is_line(line):
        raise BadLine(line)
    return _written(line)


def line_of(text):
    """The line with this written form."""
    if not isinstance(text, str):
        raise BadLine(None)
    item, at = _item_at(text, 0)
    items = [item]
    while at < len(text):
        if text[at] != " " or len(items) == MOST_ITEMS:
            raise BadLine(at)
        item, at = _item_at(text, at + 1)
        items.append(item)
    return tuple(items)


def lines_text(lines):
    """The written forms of lines, joined by line feeds."""
    if not is_row(lines):
        raise BadLine(None)
    for at, line in enumerate(lines):
        if not is_line(line):
            raise BadLine(at)
    return "\n".join([_written(line) for line in lines])


def lines_of(text):
    """For each row of the text its line, or None if it cannot be read."""
    if not isinstance(text, str):
        raise BadLine(None)
    return [_line_or_none(row) for row in text.split("\n")]


def _is_item(value):
    if isinstance(value, tuple):
        return len(value) == 1 and is_string(value[0])
    return is_word(value)


def _written(line):
    return " ".join([_item_text(item) for item in line])


def _item_text(item):
    if isinstance(item, str):
        return item
    # Backslashes first: those of the line feeds must not be doubled.
    written = item[0].replace("\\", "\\\\").replace("\n", "\\n").replace("\"", "\"\"")
    return "\"" + written + "\""


def _line_or_none(row):
    try:
        return line_of(row)
    except BadLine:
        return None


def _item_at(text, at):
    """The pair of the item that begins at this index, and of the index behind it."""
    if text.startswith("\"", at):
        return _text_at(text, at + 1)
    end = at
    while end < len(text) and end - at < MOST_WORD and text[end] in WORD_SIGNS:
        end += 1
    if end == at:
        raise BadLine(at)
    return text[at:end], end


def _text_at(text, at):
    """As _item_at, for a text of which the first quote stands before this index."""
    signs = []
    while at < len(text):
        if text[at] == "\"" and (len(signs) == MOST_TEXT or not text.startswith("\"\"", at)):
            return ("".join(signs),), at + 1
        if len(signs) == MOST_TEXT:
            raise BadLine(at)
        sign, at = _sign_at(text, at)
        signs.append(sign)
    raise BadLine(at)


def _sign_at(text, at):
    """The pair of the character of a text that is written at this index, and of the index behind it."""
    sign = text[at]
    if sign == "\"":
        return sign, at + 2
    if sign == "\\":
        following = text[at + 1:at + 2]
        if following not in ESCAPED:
            raise BadLine(at + 1)
        return ESCAPED[following], at + 2
    if sign not in SIGNS:
        raise BadLine(at)
    return sign, at + 1
