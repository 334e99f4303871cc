"""String tables, style tables, and the maps of their numbers."""

from gridfile.checks import is_integer, is_one_of, is_row, is_tuple_of
from gridfile.errors import BadMap, BadNumber, BadTable, BadWord
from gridfile.values import PLAIN, is_short_string, is_style, is_style_part

PART_SORTS = ("format", "font", "fill", "border", "align")


class TextTable:
    """A string table; it never changes."""

    def __init__(self, texts=()):
        _check_rows_are_right(texts, _is_text_or_gap)
        self._texts = tuple(texts)
        self._numbers = _with_first_numbers({}, self._texts)

    @property
    def texts(self):
        """The tuple of the texts, None for gaps."""
        return self._texts

    @property
    def how_many(self):
        """The number of the texts and gaps."""
        return len(self._texts)

    def text_at(self, number):
        """The text with this number, or None for a gap."""
        _check_number(number, 1, len(self._texts))
        return self._texts[number - 1]

    def number_of(self, text):
        """The first number of a text, or None for all that has none."""
        return self._numbers.get(text) if is_short_string(text) else None

    def grown(self, things):
        """A new table with the texts behind it that have no number yet."""
        _check_rows_are_right(things, is_short_string)
        texts = list(self._texts)
        numbers = _copied(self._numbers)
        for text in things:
            _number_grown(texts, numbers, text)
        return TextTable(texts)

    def merged(self, other):
        """The pair of a new table that also has the texts of the other one, and of the map from their numbers."""
        if not isinstance(other, TextTable):
            raise BadTable(None)
        table = self.grown([text for text in other.texts if text is not None])
        return table, (0, *[table.number_of(text) for text in other.texts])

    def compacted(self, numbers):
        """The pair of a new table with the texts of these numbers only, and of the map from the old numbers."""
        given = _given_numbers(numbers, self._texts)
        table = TextTable().grown([text for at, text in enumerate(self._texts) if at + 1 in given])
        return table, (0, *[table.number_of(text) if at + 1 in given else None for at, text in enumerate(self._texts)])


class StyleTable:
    """A style table; it never changes."""

    def __init__(self, parts=((), (), (), (), ()), rows=()):
        _check_style_table(parts, rows)
        self._parts = parts
        self._rows = rows
        self._styles = tuple([None if row is None else _style_of(parts, row) for row in rows])
        # What is PLAIN has the number 0.
        self._part_numbers = [_with_first_numbers({PLAIN[at]: 0}, row) for at, row in enumerate(parts)]
        self._numbers = _with_first_numbers({PLAIN: 0}, self._styles)

    @property
    def parts(self):
        """The five tuples of parts, None for gaps."""
        return self._parts

    @property
    def rows(self):
        """The tuple of the style rows, None for gaps."""
        return self._rows

    @property
    def how_many(self):
        """The number of the style rows and gaps."""
        return len(self._rows)

    def style_at(self, number):
        """The style with this number, or None for a gap."""
        _check_number(number, 0, len(self._rows))
        return PLAIN if number == 0 else self._styles[number - 1]

    def number_of(self, style):
        """The first number of a style, or None for all that has none."""
        return self._numbers.get(style) if is_style(style) else None

    def part_number(self, sort, part):
        """The first number of a part of this sort, or None for all that has none."""
        if not is_one_of(sort, PART_SORTS):
            raise BadWord(sort)
        at = PART_SORTS.index(sort)
        return self._part_numbers[at].get(part) if is_style_part(at, part) else None

    def grown(self, things):
        """A new table with the styles behind it that have no number yet, and their parts."""
        _check_rows_are_right(things, is_style)
        parts = [list(row) for row in self._parts]
        part_numbers = [_copied(numbers) for numbers in self._part_numbers]
        rows = list(self._rows)
        numbers = _copied(self._numbers)
        for style in things:
            if style not in numbers:
                rows.append(tuple([_number_grown(parts[at], part_numbers[at], part) for at, part in enumerate(style)]))
                numbers[style] = len(rows)
        return StyleTable(tuple([tuple(row) for row in parts]), tuple(rows))

    def merged(self, other):
        """The pair of a new table that also has the styles of the other one, and of the map from their numbers."""
        if not isinstance(other, StyleTable):
            raise BadTable(None)
        styles = [other.style_at(at + 1) for at in range(other.how_many)]
        table = self.grown([style for style in styles if style is not None])
        return table, (0, *[table.number_of(style) for style in styles])

    def compacted(self, numbers):
        """The pair of a new table with the styles of these numbers only, and of the map from the old numbers."""
        given = _given_numbers(numbers, self._styles)
        table = StyleTable().grown([style for at, style in enumerate(self._styles) if at + 1 in given])
        return table, (0, *[table.number_of(style) if at + 1 in given else None
                            for at, style in enumerate(self._styles)])


def joined_map(first, second):
    """The number map that does first and then second."""
    for given in (first, second):
        if not _is_number_map(given):
            raise BadMap(given)
    if any([number is not None and number >= len(second) for number in first]):
        raise BadMap(first)
    return tuple([None if number is None else second[number] for number in first])


def _check_rows_are_right(rows, is_right):
    if not is_row(rows):
        raise BadTable(None)
    for at, row in enumerate(rows):
        if not is_right(row):
            raise BadTable(at)


def _check_number(number, least, most):
    if not is_integer(number, least, most):
        raise BadNumber(number)


def _check_style_table(parts, rows):
    if not is_tuple_of(parts, len(PART_SORTS)) or not isinstance(rows, tuple):
        raise BadTable(None)
    if not all(isinstance(row, tuple) for row in parts):
        raise BadTable(None)
    for at, row in enumerate(parts):
        if not all([part is None or is_style_part(at, part) and part != PLAIN[at] for part in row]):
            raise BadTable(at)
    for at, row in enumerate(rows):
        if row is not None and not _is_style_row(row, parts):
            raise BadTable(len(PART_SORTS) + at)


def _is_style_row(row, parts):
    """Whether a value of any kind has five indexes of parts, not all of them 0."""
    if not is_tuple_of(row, len(PART_SORTS)) or not all([_is_number_in(row[at], parts[at]) for at in range(len(row))]):
        return False
    return row != (0, 0, 0, 0, 0)


def _is_number_in(number, things):
    """Whether a value of any kind is 0 or the number of one of these things, and of no gap."""
    return is_integer(number, 0, len(things)) and (number == 0 or things[number - 1] is not None)


def _is_text_or_gap(value):
    return value is None or is_short_string(value)


def _is_number_map(value):
    """Whether a value of any kind is a tuple that begins with 0 and has only numbers and None."""
    if not isinstance(value, tuple) or value == () or not is_integer(value[0], 0, 0):
        return False
    return all([number is None or is_integer(number, 0, number) for number in value])


def _style_of(parts, row):
    return tuple([PLAIN[at] if number == 0 else parts[at][number - 1] for at, number in enumerate(row)])


def _with_first_numbers(numbers, things):
    """The numbers, to which the first number of each thing in a row with gaps is added."""
    for at, thing in enumerate(things):
        if thing is not None:
            numbers.setdefault(thing, at + 1)
    return numbers


def _copied(numbers):
    return {thing: numbers[thing] for thing in numbers}


def _number_grown(things, numbers, thing):
    """The number of a thing, which is appended if it has none yet."""
    if thing not in numbers:
        things.append(thing)
        numbers[thing] = len(things)
    return numbers[thing]


def _given_numbers(numbers, things):
    """The numbers that are given, as keys of a dict; each must be that of a thing, or 0."""
    if not is_row(numbers):
        raise BadNumber(numbers)
    for number in numbers:
        if not _is_number_in(number, things):
            raise BadNumber(number)
    return {number: True for number in numbers}
