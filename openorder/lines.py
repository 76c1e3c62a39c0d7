"""The words of lines whose words are parted by single blanks."""

from openorder.words import DIGITS, LETTERS, sort_of

LEAST_DIGITS = "2147483648"
SIGNS = ("+", "-", "*", "/", "~", "<", "==")


def is_name(word):
    """Tell whether a word is a NAME."""
    return word != "" and word[0] in LETTERS and has_only(word, LETTERS + DIGITS) and sort_of(word) == "name"


def is_number(word):
    """Tell whether a word is a NUMBER."""
    return word != "" and has_only(word, DIGITS) and sort_of(word) == "number"


def is_value(word):
    """Tell whether a word is a value: a NUMBER, or one but 0 behind a -, to the least value."""
    if not word.startswith("-"):
        return is_number(word)
    return word[1:] == LEAST_DIGITS or is_number(word[1:]) and word[1:] != "0"


def has_only(word, signs):
    """Tell whether a word has no other signs than these."""
    return all([sign in signs for sign in word])


def item_of(word, sort):
    """Return the item that a word of this sort tells, or None if it is none."""
    if sort == "number":
        return int(word) if is_number(word) else None
    if sort == "value":
        return int(word) if is_value(word) else None
    if sort == "name":
        return word if is_name(word) else None
    known = SIGNS if sort == "sign" else ("int", "ref")
    return word if word in known else None
