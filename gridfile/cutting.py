"""Texts of formulas and of forms cut into tokens, each as long as it can be.

A token is a triple (kind, index, text). The kinds are number, text, hash (one of the #words), word, function, part,
sheet and sign, and for ( ) , : ! the character itself. "open text" and "open sheet" lack their closing quote, and
"none" is a character at which no token begins; nothing is cut behind these.
"""

from gridfile.checks import CAPITALS, DIGITS
from gridfile.errors import BadFormula
from gridfile.words import WORD_SIGNS, is_call_word

MOST_FORMULA = 2000
MARKS = "(),:!"
HASHES = ("#REF!", "#NAME?", "#VALUE!", "#DIV/0!")
# The longer ones first, as tokens are as long as they can be.
FORMULA_SIGNS = ("<>", "<=", ">=", "=", "<", ">", "&", "+", "-", "*", "/", "^")


def check_text(text):
    """Raises the error of a text that is no string, too long, or does not begin as formulas do."""
    if not isinstance(text, str):
        raise BadFormula(None)
    if len(text) > MOST_FORMULA:
        raise BadFormula(MOST_FORMULA)
    if not text.startswith("="):
        raise BadFormula(0)


def cut(text, is_form):
    """The list of the tokens behind the =, those of a form if is_form is True."""
    found = []
    at = 1
    while at < len(text):
        if text[at] == " ":
            at += 1
        else:
            kind, end = _token_at(text, at, is_form)
            found.append((kind, at, text[at:end]))
            at = len(text) if kind == "none" else end
    return found


def _token_at(text, at, is_form):
    """The pair of the kind of the token that begins at this index, and of the index behind it."""
    sign = text[at]
    if sign == "\"":
        return _quoted("text", text, _text_end(text, at))
    if sign == "'":
        return _quoted("sheet", text, text.find("'", at + 1) + 1)
    if sign in DIGITS:
        return "number", _end_of(text, at, DIGITS)
    if sign in MARKS:
        return sign, at + 1
    for word in HASHES:
        if text.startswith(word, at):
            return "hash", at + len(word)
    for word in FORMULA_SIGNS:
        if text.startswith(word, at):
            return "sign", at + len(word)
    return _word_at(text, at, is_form)


def _word_at(text, at, is_form):
    """As _token_at, for a word, function or part, or none of them."""
    end = _end_of(text, at, WORD_SIGNS)
    if text.startswith("(", end) and is_call_word(text[at:end]):
        return "function", end + 1
    behind_part = _form_part_end(text, at) if is_form else _part_end(text, at)
    if behind_part > at and behind_part >= end:
        return "part", behind_part
    return ("word", end) if end > at else ("none", at + 1)


def _quoted(kind, text, end):
    """The kind and the end of what stands in quotes, of which the end is 0 if they are not closed."""
    return (kind, end) if end > 0 else (f"open {kind}", len(text))


def _text_end(text, at):
    """The index behind the text that begins at this index, or 0 if it is not closed."""
    last = text.find("\"", at + 1)
    while last >= 0 and text.startswith("\"", last + 1):
        last = text.find("\"", last + 2)
    return last + 1


def _end_of(text, at, signs):
    """The index behind the characters from this index on that are such signs."""
    end = at
    while end < len(text) and text[end] in signs:
        end += 1
    return end


def _part_end(text, at):
    """The index behind capital letters and digits, $ before each or not, or the index itself if there are none."""
    letters = _behind_dollar(text, at)
    behind_letters = _end_of(text, letters, CAPITALS)
    digits = _behind_dollar(text, behind_letters)
    end = _end_of(text, digits, DIGITS)
    return end if behind_letters > letters and end > digits else at


def _behind_dollar(text, at):
    return at + 1 if text.startswith("$", at) else at


def _form_part_end(text, at):
    """The index behind R and C, each with its number or without, or the index itself if there are none."""
    if not text.startswith("R", at):
        return at
    column = _form_number_end(text, at + 1)
    return _form_number_end(text, column + 1) if text.startswith("C", column) else at


def _form_number_end(text, at):
    """The index behind digits, or behind digits in [ ], or the index itself if there are none."""
    if not text.startswith("[", at):
        return _end_of(text, at, DIGITS)
    digits = at + 2 if text.startswith("-", at + 1) else at + 1
    end = _end_of(text, digits, DIGITS)
    return end + 1 if end > digits and text.startswith("]", end) else at
