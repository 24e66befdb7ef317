"""Integers as they are written in texts."""

DIGITS = "0123456789"
MOST_DIGITS = 9


def integer_of(word):
    """Return the integer that a word writes, None if it writes none or one of more digits than any text has."""
    digits = word.removeprefix("-")
    if not 1 <= len(digits) <= MOST_DIGITS:
        return None
    # int alone also takes blanks, "+", "_" and the digits of other scripts.
    if not all([sign in DIGITS for sign in digits]):
        return None
    number = int(word)
    # A needless zero and "-0" are written otherwise.
    return number if str(number) == word else None
