"""Texts cut into words, and a cursor that goes over them."""

from openorder.errors import BadText

LETTERS = "abcdefghijklmnopqrstuvwxyz"
DIGITS = "0123456789"
RESERVED = ("int", "ref", "fun", "if", "else", "while", "return", "print")
DOUBLE_SIGNS = ("++", "+=", "==", "&&", "||")
SINGLE_SIGNS = "+-*/~=<!&?:,;()[]{}#"
LONGEST_NAME = 8
GREATEST = 2147483647
DIGITS_OF_GREATEST = 10


def words_of(text):
    """Return the words of a text as triples (sort, word, index), with an "end" behind them.

    The sort is "name", "number", "edge" (2147483648), "bad" (no word), or the word itself.
    """
    words = []
    at = 0
    while at < len(text):
        if text[at] in " \n":
            at += 1
            continue
        word = text[at:word_end(text, at)]
        words.append((sort_of(word), word, at))
        at += len(word)
    words.append(("end", "", len(text)))
    return words


def word_end(text, at):
    """Return the index behind the word that begins at this index."""
    if text[at] in LETTERS:
        return end_of_signs(text, at, LETTERS + DIGITS)
    if text[at] in DIGITS:
        return end_of_signs(text, at, DIGITS)
    if text[at:at + 2] in DOUBLE_SIGNS:
        return at + 2
    return at + 1


def end_of_signs(text, at, signs):
    """Return the index of the first sign from this index on that is none of these signs."""
    while at < len(text) and text[at] in signs:
        at += 1
    return at


def sort_of(word):
    """Return the sort of what was cut out as one word."""
    if word in RESERVED:
        return word
    if word[0] in LETTERS:
        return "name" if len(word) <= LONGEST_NAME else "bad"
    if word[0] in DIGITS:
        return sort_of_digits(word)
    return word if word in DOUBLE_SIGNS or word in SINGLE_SIGNS else "bad"


def sort_of_digits(word):
    """Return "number", "edge" for the one more that a global may have behind a -, or "bad"."""
    if len(word) > DIGITS_OF_GREATEST or (word[0] == "0" and word != "0"):
        return "bad"
    number = int(word)
    if number <= GREATEST:
        return "number"
    return "edge" if number == GREATEST + 1 else "bad"


class Cursor:
    """A place between the words of a text."""

    def __init__(self, text):
        self.words = words_of(text)
        self.place = 0

    def sign(self):
        """Return the sort of the word behind the cursor."""
        return self.words[self.place][0]

    def step(self):
        """Go over one word and return it."""
        word = self.words[self.place][1]
        self.place += 1
        return word

    def want(self, sign):
        """Go over a word of this sort and return it; any other word is wrong."""
        if self.sign() != sign:
            self.refuse()
        return self.step()

    def passes(self, sign):
        """Go over a word of this sort, if it stands there, and tell whether it does."""
        if self.sign() != sign:
            return False
        self.step()
        return True

    def mark(self):
        """Go over a mark, if there is one; return 1 for a mark, else 0."""
        return 1 if self.passes("#") else 0

    def refuse(self):
        """Raise BadText: no text begins with the words up to the one behind the cursor."""
        raise BadText(self.words[self.place][2])
