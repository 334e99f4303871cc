"""Names of sheets, words of defined names and words of functions."""

from gridfile.checks import CAPITALS, DIGITS, SIGNS, is_made_of, is_text

MOST_SHEET_NAME = 31
MOST_NAME_WORD = 20
MOST_CALL_WORD = 20
BARRED_IN_SHEET_NAMES = ":\\/?*[]'\""
WORD_SIGNS = "ABCDEFGHIJKLMNOPQRSTUVWXYZabcdefghijklmnopqrstuvwxyz0123456789_"
CALL_SIGNS = "ABCDEFGHIJKLMNOPQRSTUVWXYZ0123456789"


def is_sheet_name(value):
    """Whether a value of any kind can be the name of a sheet."""
    if not is_text(value, 1, MOST_SHEET_NAME, SIGNS):
        return False
    return value.strip(" ") == value and not any(sign in value for sign in BARRED_IN_SHEET_NAMES)


def is_name_word(value):
    """Whether a value of any kind can be the word of a defined name."""
    if not is_text(value, 1, MOST_NAME_WORD, WORD_SIGNS) or value[0] in DIGITS:
        return False
    capital = value.upper()
    return capital not in ("TRUE", "FALSE") and not _is_like_place(capital) and not _is_like_part(capital)


def is_call_word(value):
    """Whether a value of any kind can be the word of a function."""
    return is_text(value, 1, MOST_CALL_WORD, CALL_SIGNS) and value[0] not in DIGITS


def _is_like_place(capital):
    """Whether it is letters followed by digits; the word is known not to begin with a digit."""
    digits = capital.lstrip(CAPITALS)
    return digits != "" and is_made_of(digits, DIGITS)


def _is_like_part(capital):
    """Whether it is R, C or RC, with or without digits behind R and C."""
    rest = capital
    for letter in "RC":
        if rest.startswith(letter):
            rest = rest[1:].lstrip(DIGITS)
    return rest == ""
