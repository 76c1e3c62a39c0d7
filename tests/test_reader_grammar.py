"""[5]: read against the grammar as it is written in the document."""

import random
import unittest

from openorder.errors import BadText
from openorder.reader import program_text, read
from openorder.words import words_of
from tests.grammar import fail_index
from tests.maker import Maker

SORTS = {"name": "NAME", "number": "NUMBER", "edge": "EDGE"}
POOL = ("int ref fun if else while return print x f a 7 0 2147483648 007 ++ ++ += + - * / ~ == = = < "
        "! && & || ? : , ; ( ) [ ] { } # # # abcdefghi").split()
SHORT = "f [ ] ( ) * # ++ = , ? : & 1 - print + &&".split()


def index_by_grammar(text):
    """Return the index that BadText should tell, None for a program."""
    words = words_of(text)
    place = fail_index("program", [SORTS.get(sort, sort) for sort, _, _ in words[:-1]])
    return None if place is None else words[place][2]


def index_by_reader(text):
    try:
        read(text)
    except BadText as found:
        return found.at
    return None


class AgainstTheGrammar(unittest.TestCase):
    def check(self, text):
        found = index_by_grammar(text)
        self.assertEqual(index_by_reader(text), found, text)
        return found

    def test_programs_with_words_changed(self):
        chance = random.Random(5)
        for seed in range(120):
            program = Maker(seed).program(functions=1, statements=2, level=4)
            text = program_text(program)
            words = [word for _, word, _ in words_of(text[text.index("fun"):])[:-1]]
            self.assertIsNone(self.check(" ".join(words)))
            for _ in range(12):
                self.check(" ".join(changed(chance, words)))

    def test_globals_with_words_changed(self):
        chance = random.Random(6)
        words = ("int x = 1 ; int y = - 2147483648 ; int a [ 3 ] ; ref p = & x ; ref q = & a [ 1 ] ; "
                 "fun f ( int k , ref r ) { } fun main ( ) { }").split()
        for _ in range(600):
            self.check(" ".join(changed(chance, words)))

    def test_all_short_beginnings(self):
        begun = ["fun main ( ) {"]
        for _ in range(4):
            longer = []
            for text in begun:
                for word in SHORT:
                    found = self.check(text + " " + word)
                    if found == len(text) + 1 + len(word):
                        longer.append(text + " " + word)
            begun = longer
        self.assertGreater(len(begun), 1000)


def changed(chance, words):
    """Return the words with one or two of them taken out, put in or changed, or with an end cut off."""
    words = list(words)
    for _ in range(chance.choice((1, 1, 2))):
        at = chance.randrange(len(words))
        roll = chance.randrange(4)
        if roll == 0:
            del words[at]
        elif roll == 1:
            words.insert(at, chance.choice(POOL))
        elif roll == 2:
            words[at] = chance.choice(POOL)
        else:
            words = words[:max(at, 1)]
    return words


if __name__ == "__main__":
    unittest.main()
