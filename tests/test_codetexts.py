"""[18]: code as text."""

import random
import unittest

from openorder.code import compiled, rows_of
from openorder.codetexts import code_in, code_text
from openorder.errors import BadCode
from openorder.fitting import fitted
from openorder.optimizer import PASSES, optimized
from openorder.reader import read
from tests.programs import ALL, listed, only_tuples
from tests.test_code import P, made

TEXT = """int x -3
array a 4
ref p a 2
routine f
param int n
param ref r
local int t
local ref u
num 0 -2147483648 0
ref 1 x 0 1
copy 2 1 2
get 3 x 3
geti 4 a 0 4
getat 5 1 5
refi 6 a 0 6
put t 0 7
puti a 0 3 8
putat 1 0 9
op 7 ~ 0 3 10
neg 8 7 11
not 9 8 12
unless 9 0 13
jump 2 14
arg 3 15
call 10 f 1 16
print 10 17
return 10 18
spill 0 3 19
fill 11 0 20
routine main"""

# How each line of the text above is made up: its word and the sorts of its items.
NUMBERS = "0123456789"
WRONG_NUMBERS = ("-1", "01", "2147483648", "x", "+1", "", "1.0", "0x1", "99999999999")
WRONG_VALUES = ("-0", "-01", "2147483648", "-2147483649", "x", "", "--1", "-", "007")
WRONG_NAMES = ("7", "X", "int", "print", "a_b", "toolongname", "", "7x", "x-y", "else")


def index_of(text):
    """Return the line of the BadCode that a text raises, None if it is a text of code."""
    try:
        code_in(text)
    except BadCode as bad:
        return bad.line
    return None


class Examples(unittest.TestCase):
    def test_examples(self):
        self.assertEqual(code_in(code_text(compiled(P))), compiled(P))
        self.assertEqual(index_of("int x 3"), 1)


class Texts(unittest.TestCase):
    def test_a_text_with_each_kind_of_line(self):
        code = code_in(TEXT)
        self.assertEqual(code_text(code), TEXT)
        self.assertTrue(only_tuples(code))
        self.assertEqual(code[0], (("int", "x", -3), ("array", "a", 4), ("ref", "p", "a", 2)))
        name, params, inner, rows = code[1][0]
        self.assertEqual((name, params, inner), ("f", (("int", "n"), ("ref", "r")), (("int", "t"), ("ref", "u"))))
        self.assertEqual(rows[:3], (("num", 0, -2147483648, 0), ("ref", 1, "x", 0, 1), ("copy", 2, 1, 2)))
        self.assertEqual(rows[10], ("op", 7, "~", 0, 3, 10))
        self.assertEqual(rows[16], ("call", 10, "f", 1, 16))
        self.assertEqual(code[1][1], ("main", (), (), ()))
        self.assertEqual(code_text(text_code := code_in(TEXT)), TEXT)
        self.assertEqual(code_in(text=code_text(code=listed(text_code))), text_code)

    def test_signs(self):
        for sign in ("+", "-", "*", "/", "~", "<", "=="):
            self.assertEqual(code_in(f"routine f\nop 0 {sign} 1 2 3")[1][0][3], (("op", 0, sign, 1, 2, 3),))
        for sign in ("=", "%", "&&", "++", "x", "", "!"):
            self.assertEqual(index_of(f"routine f\nop 0 {sign} 1 2 3"), 1)

    def test_there_and_back(self):
        for seed in range(80):
            program = made(seed)
            chance = random.Random(seed)
            words = [chance.choice(PASSES) for _ in range(4)]
            for code in (rows_of(program), compiled(program, 3), fitted(rows_of(program), 4), optimized(program), optimized(program, words)):
                text = code_text(code)
                self.assertEqual(code_in(text), code)
                self.assertEqual(code_text(listed(code)), text)
                self.assertFalse(text.endswith("\n"))
        for program in ALL:
            self.assertEqual(code_in(code_text(rows_of(program))), rows_of(program))

    def test_names_that_are_words_of_the_text(self):
        program = read("int num = -7; int routine[3]; ref array = &routine[1]; int local = 0; fun jump(int op, ref call) { "
                       "int neg = op; return neg + *call; } fun put(int param) { return jump(param, array); } "
                       "fun main(int get) { num = routine[get] + put(num); local++; }")
        for code in (rows_of(program), compiled(program), optimized(program)):
            self.assertEqual(code_in(code_text(code)), code)

    def test_values(self):
        for value in ("0", "-1", "7", "2147483647", "-2147483648", "-2147483647"):
            code = code_in(f"int x {value}\nroutine main\nnum 0 {value} 1")
            self.assertEqual((code[0][0][2], code[1][0][3][0][2]), (int(value), int(value)))
        for value in WRONG_VALUES:
            self.assertEqual(index_of(f"int x {value}\nroutine main"), 0)
            self.assertEqual(index_of(f"routine main\nnum 0 {value} 1"), 1)

    def test_nothing_else_is_looked_at(self):
        for text in ("array a 0\nroutine f", "array a 2147483647\nroutine f", "ref p q 9\nroutine f", "int x 1\nint x 1\nroutine f\nroutine f",
                     "routine f\nget 5 z 99\njump 77 0\ncall 1 nobody 9 0\nprint 8 2147483647", "routine f\nparam int a\nparam int a\nlocal int a"):
            self.assertEqual(code_text(code_in(text)), text)


class Wrong(unittest.TestCase):
    def test_no_routine(self):
        self.assertEqual(index_of("int x 3\narray a 2"), 2)
        self.assertEqual(index_of(""), 0)
        self.assertEqual(index_of("\n"), 0)
        self.assertEqual(index_of("int x 3\n"), 1)
        self.assertEqual(index_of("int x 3\nroutine"), 1)

    def test_each_item_of_each_line(self):
        lines = TEXT.split("\n")
        for at, line in enumerate(lines):
            words = line.split(" ")
            for place in range(len(words)):
                for wrong in self.wrong_words(words, place):
                    changed = words[:place] + [wrong] + words[place + 1:]
                    text = "\n".join(lines[:at] + [" ".join(changed)] + lines[at + 1:])
                    self.assertEqual(index_of(text), at, (line, changed))

    def wrong_words(self, words, place):
        """Return words that cannot stand at a place of a line."""
        if place == 0:
            return ("", "nothing", "INT", "7", "Num")
        if words[0] in ("param", "local") and place == 1:
            return ("array", "fun", "", "x", "0")
        if words[0] == "op" and place == 2:
            return ("=", "", "plus")
        if words[place][0] in NUMBERS + "-":
            is_value = (words[0], place) in (("int", 2), ("num", 2))
            return WRONG_VALUES if is_value else WRONG_NUMBERS
        return WRONG_NAMES

    def test_words_too_many_and_too_few(self):
        lines = TEXT.split("\n")
        for at, line in enumerate(lines):
            for changed in (line + " 0", line + " ", " " + line, line.replace(" ", "  ", 1), line.rsplit(" ", 1)[0],
                            line + " x", line.replace(" ", "\t", 1)):
                self.assertEqual(index_of("\n".join(lines[:at] + [changed] + lines[at + 1:])), at, changed)

    def test_lines_out_of_order(self):
        for text, at in (
                ("routine f\nint x 3", 1), ("routine f\narray a 2", 1), ("routine f\nref p x 0", 1), ("num 0 1 0\nroutine f", 0),
                ("param int x\nroutine f", 0), ("local int x\nroutine f", 0), ("routine f\nlocal int t\nparam int x", 2),
                ("routine f\nnum 0 1 0\nlocal int t", 2), ("routine f\nnum 0 1 0\nparam int t", 2), ("int x 3\nref 0 x 0 1\nroutine f", 1),
                ("routine f\nnum 0 1 0\nint x 3", 2), ("routine f\n\nroutine g", 1), ("routine f\n", 1), ("\nroutine f", 0),
                ("routine f\nparam int x\nroutine g\nlocal int y\nparam int z\nbad", 4)):
            self.assertEqual(index_of(text), at, text)

    def test_the_first_of_several(self):
        self.assertEqual(index_of("int x 3\nbad\nroutine f\nworse"), 1)
        self.assertEqual(index_of("int x 3\nnum 0 1 0\nint -"), 1)

    def test_lines_moved_doubled_and_left_out(self):
        sections = {"int": 0, "array": 0, "ref": 0, "routine": 1, "param": 2, "local": 3}
        lines = TEXT.split("\n")
        chance = random.Random(1)
        for _ in range(300):
            changed = list(lines)
            moved = changed.pop(chance.randrange(len(changed)))
            for _ in range(chance.randrange(3)):
                changed.insert(chance.randrange(len(changed) + 1), moved)
            reached, told = 0, len(changed)
            for at, line in enumerate(changed):
                word = line.split(" ")[0]
                section = sections.get(word, 4)
                if word == "ref" and len(line.split(" ")) == 5:
                    section = 4
                is_first = reached == 0 and section not in (0, 1)
                if section == 1:
                    reached = 1
                elif is_first or section < reached:
                    told = at
                    break
                else:
                    reached = section
            else:
                told = None if reached else len(changed)
            self.assertEqual(index_of("\n".join(changed)), told)


if __name__ == "__main__":
    unittest.main()
