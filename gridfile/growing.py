"""Trees and forms that grow token by token; how deep and how heavy they become is not checked here."""

from gridfile.checks import DIGITS
from gridfile.cutting import check_text, cut
from gridfile.errors import BadFormula, BadPlace
from gridfile.nodes import LEVELS, MINUS_LEVEL
from gridfile.places import MOST_COLUMN, MOST_ROW, place_at
from gridfile.trees import MOST_CALLED
from gridfile.values import MOST_NUMBER, is_short_string
from gridfile.words import is_name_word, is_sheet_name

MOST_OPEN = 30
OPERANDS = ("number", "text", "hash", "word", "part", "sheet")
# The states behind the trees that do not surely end here.
STATES = {"name": "word", "sheet": "sheet"}
HASH_TREES = {"#REF!": ("lost",), "#NAME?": ("error", "NAME"), "#VALUE!": ("error", "VALUE"),
              "#DIV/0!": ("error", "DIV")}


def grown_tree(text, is_form):
    """The tree of the text of a formula, or the form of that of a form."""
    check_text(text)
    growth = Growth(is_form)
    for kind, at, word in cut(text, is_form):
        if kind in ("open text", "open sheet"):
            raise BadFormula(len(text) if growth.can_take(kind[len("open "):], word) else at)
        if not growth.can_take(kind, word) or not growth.take(kind, word):
            raise BadFormula(at)
    if not growth.is_done():
        raise BadFormula(len(text))
    return growth.whole()


class Growth:
    """The tokens taken so far.

    The state is "start" where a tree must begin, "first" behind a function, where also its ) can stand, "word", "part"
    or "value" behind what can end a tree, "sheet" behind a sheet in ' ', "bang" behind ! and "colon" behind a colon.
    """

    def __init__(self, is_form):
        self._is_form = is_form
        self._state = "start"
        # The trees that wait for a sign, a call or the end, and the pairs (level, sign) that wait for their right
        # tree; 0 is the level of an open parenthesis.
        self._trees = []
        self._signs = []
        # For each open parenthesis the word of its function, or None, and how many of its trees are complete.
        self._frames = []

    def can_take(self, kind, word):
        """Whether a token of this kind can stand here."""
        if self._state in ("start", "first"):
            if kind in ("(", "function"):
                return len(self._frames) < MOST_OPEN
            return kind in OPERANDS or (kind, word) == ("sign", "-") or kind == ")" and self._state == "first"
        if self._state in ("bang", "colon"):
            return kind == "part"
        if self._state == "sheet":
            return kind == "!"
        if kind == ")":
            return self._frames != []
        if kind == ",":
            return self._frames != [] and self._frames[-1][0] is not None and self._frames[-1][1] + 1 < MOST_CALLED
        return kind == "sign" or (kind, self._state) in (("!", "word"), (":", "part"))

    def take(self, kind, word):
        """Takes a token that can stand here; whether it is right by itself."""
        if kind == "part":
            return self._take_part(word)
        if kind in OPERANDS:
            return self._take_operand(_operand(kind, word))
        if kind == "sign":
            self._take_sign(word)
        elif kind in ("(", "function"):
            self._take_opening(kind, word)
        elif kind == ",":
            self._complete(1)
            self._frames[-1][1] += 1
            self._state = "start"
        elif kind == ")":
            self._take_closing()
        else:
            self._state = "bang" if kind == "!" else "colon"
        return True

    def is_done(self):
        """Whether the text can end here."""
        return self._frames == [] and self._state in ("word", "part", "value")

    def whole(self):
        """The tree, if the text can end here."""
        self._complete(1)
        return self._trees[0]

    def _take_operand(self, tree):
        if tree is None:
            return False
        self._trees.append(tree)
        self._state = STATES.get(tree[0], "value")
        return True

    def _take_part(self, word):
        part = _form_part(word) if self._is_form else _part(word)
        if part is None:
            return False
        cell_word, range_word = ("rcell", "rrange") if self._is_form else ("cell", "range")
        if self._state == "colon":
            _, sheet, corner = self._trees.pop()
            self._trees.append((range_word, sheet, corner, part))
            self._state = "value"
            return True
        # Behind ! the tree before it is a name or a sheet, of which the second item is the sheet's name.
        sheet = self._trees.pop()[1] if self._state == "bang" else None
        self._trees.append((cell_word, sheet, part))
        self._state = "part"
        return True

    def _take_sign(self, sign):
        if self._state in ("start", "first"):
            self._signs.append((MINUS_LEVEL, sign))
        else:
            self._complete(LEVELS[sign])
            self._signs.append((LEVELS[sign], sign))
        self._state = "start"

    def _take_opening(self, kind, word):
        self._signs.append((0, kind))
        self._frames.append([None, 0] if kind == "(" else [word[:-1], 0])
        self._state = "start" if kind == "(" else "first"

    def _take_closing(self):
        self._complete(1)
        self._signs.pop()
        word, many = self._frames.pop()
        if word is not None:
            first = len(self._trees) - (0 if self._state == "first" else many + 1)
            inner = tuple(self._trees[first:])
            del self._trees[first:]
            self._trees.append(("call", word, inner))
        self._state = "value"

    def _complete(self, level):
        """Makes trees of the signs that bind at least as closely as those of this level."""
        while self._signs != [] and self._signs[-1][0] >= level:
            sign_level, sign = self._signs.pop()
            right = self._trees.pop()
            if sign_level == MINUS_LEVEL:
                self._trees.append(("minus", right))
            else:
                self._trees.append(("op", sign, self._trees.pop(), right))


def _operand(kind, word):
    """The tree of a token, ("sheet", name) for a sheet, or None if it is wrong by itself."""
    if kind == "number":
        return _number(word)
    if kind == "text":
        inner = word[1:-1].replace("\"\"", "\"")
        return ("text", inner) if is_short_string(inner) else None
    if kind == "hash":
        return HASH_TREES[word]
    if kind == "sheet":
        return ("sheet", word[1:-1]) if is_sheet_name(word[1:-1]) else None
    if word in ("TRUE", "FALSE"):
        return ("truth", word == "TRUE")
    return ("name", word) if is_name_word(word) else None


def _number(word):
    digits = word.lstrip("0")
    # Long rows of digits are too great in any case, and not worth reading.
    if len(digits) > len(str(MOST_NUMBER)):
        return None
    number = int("0" + digits)
    return ("number", number) if number <= MOST_NUMBER else None


def _part(word):
    """The part that a token of this shape is, or None if it is wrong by itself."""
    bare = word.lstrip("$")
    try:
        row, column = place_at(bare.replace("$", ""))
    except BadPlace:
        return None
    return (row, column, "$" in bare, bare != word)


def _form_part(word):
    """The part of a form that a token of this shape is, or None if it is wrong by itself."""
    rows, _, columns = word[1:].partition("C")
    row = _form_number(rows, MOST_ROW)
    column = _form_number(columns, MOST_COLUMN)
    if row is None or column is None:
        return None
    return (row[0], column[0], row[1], column[1])


def _form_number(text, most):
    """The pair of the number and of whether it is fixed, or None if it is wrong."""
    if text == "":
        return (0, False)
    digits = text.strip("[-]")
    if digits[0] == "0" or len(digits) > len(str(most)):
        return None
    if text[0] in DIGITS:
        return (int(digits), True) if int(digits) <= most else None
    number = -int(digits) if "-" in text else int(digits)
    return (number, False) if int(digits) < most else None
