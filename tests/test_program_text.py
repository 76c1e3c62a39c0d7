"""[5]: program_text, its blanks, lines and brackets."""

import unittest

from openorder.errors import BadText
from openorder.reader import program_text, read
from openorder.words import words_of
from tests.maker import Maker
from tests.programs import ALL, listed

WHOLE = """int x = -2147483648;
int a[3];
ref p = &x;
ref q = &a[0];
ref r = &a[2];
fun f() {
}
fun g(int k, ref s) {
  int t = (k, x);
  ref u = &a[k, 1];
  while (k < 3) {
    if (k == 1) {
      k++;
    } else {
      k += 2;
      if (k) {
      }
    }
    *s = k ? x, 1 : 2;
  }
  k, x;
  return k, x;
}
fun main(int k) {
  print#(f() + g#(k, &x) -# a[#k] * -#!#*#p);
  (*p)++# + a[1]++# + x++;
  &a[#0] ==# p && !k || k < 1;
  a[k] =# x +=# -4;
  *p++;
}"""


def words_in(text):
    return [word for _, word, _ in words_of(text)[:-1]]


def without_brackets(words, at):
    """Return the words without the bracket at this place and the one that closes it."""
    depth = 0
    for end in range(at, len(words)):
        depth += {"(": 1, ")": -1}.get(words[end], 0)
        if depth == 0:
            return words[:at] + words[at + 1:end] + words[end + 1:]
    return None


class ProgramText(unittest.TestCase):
    def test_example(self):
        text = "fun main(int k){if(k<2){k=(1,2);}else{}return -(k*(3+k));}"
        self.assertEqual(program_text(read(text)), "fun main(int k) {\n  if (k < 2) {\n    k = (1, 2);\n  }\n"
                                                   "  return -(k * (3 + k));\n}")

    def test_every_form(self):
        self.assertEqual(program_text(read(WHOLE)), WHOLE)
        self.assertEqual(program_text(read(" ".join(words_in(WHOLE)))), WHOLE)
        self.assertEqual(program_text(listed(read(WHOLE))), WHOLE)

    def test_a_first_body_that_is_empty(self):
        text = "fun main() {\n  if (1) {\n  } else {\n    1;\n  }\n}"
        self.assertEqual(program_text(read(text)), text)

    def test_index_of_a_reference(self):
        program = read("int x = 1; int a[2]; ref p = &x[0]; ref q = &a; fun main() { }")
        self.assertEqual(program_text(program), "int x = 1;\nint a[2];\nref p = &x;\nref q = &a[0];\nfun main() {\n}")

    def test_brackets_that_are_not_needed(self):
        same = {
            "((x))": "x", "(x, y), z": "x, y, z", "(x + y) + z": "x + y + z", "(x * y) + z": "x * y + z", "-(x)": "-x", "-(-x)": "--x",
            "!(*x)": "!*x", "(x = y), z": "x = y, z", "x = (y = z)": "x = y = z", "x ? y : (z ? x : y)": "x ? y : z ? x : y",
            "x ? (y, z) : x": "x ? y, z : x", "x ? (y = z) : x": "x ? y = z : x", "a[(x, y)]": "a[x, y]",
            "&a[(x = y)]": "&a[x = y]", "(x || y) ? z : x": "x || y ? z : x", "-(x++)": "-x++", "*(x++)": "*x++",
            "print((x = y))": "print(x = y)", "f((x ? y : z), (x += y))": "f(x ? y : z, x += y)",
            "(x == y) == z": "x == y == z", "x = (y, z) + 1": "x = (y, z) + 1", "x && (y == z)": "x && y == z",
            "(a[1])": "a[1]", "*(*x) = 1": "**x = 1", "-(f(x))": "-f(x)", "x < (y + z)": "x < y + z",
        }
        for text, short in same.items():
            with self.subTest(text=text):
                written = program_text(read("fun main() { " + text + "; }"))
                self.assertEqual(written, "fun main() {\n  " + short + ";\n}")

    def test_brackets_that_are_needed(self):
        for text in ("x, (y, z)", "x = (y, z)", "f((x, y), z)", "print((x, y))", "(x = y) + z", "-(x + y)",
                     "!(x == y)", "*(x = y)", "x - (y - z)", "x - (y + z)", "x / (y * z)", "(x + y) * z", "x < (y < z)",
                     "x == (y == z)", "(x == y) < z", "x && (y && z)", "x || (y || z)", "(x || y) && z",
                     "(x ? y : z) ? x : y", "x ? y : (z = x)", "(x = y) ? z : x", "(x, y) ? z : x", "x ? y : (z, x)",
                     "(x ? y : z) + x", "x + (y ? z : x)", "(*x)++", "*(x + y) = z", "(*(x + y))++",
                     "-(x = y)", "-(x ? y : z)", "(x = y) || z", "x || (y += z)", "(x && y) == z", "-(x, y)"):
            with self.subTest(text=text):
                body = "fun main() {\n  " + text + ";\n}"
                self.assertEqual(program_text(read(body)), body)

    def test_read_gives_the_same_program_back(self):
        for program in ALL:
            self.assertEqual(read(program_text(program)), program)
        for seed in range(300):
            program = Maker(seed).program(functions=3, statements=3, level=4)
            self.assertEqual(read(program_text(program)), program)

    def test_no_bracket_can_be_left_out(self):
        tried = 0
        for seed in range(120):
            program = Maker(seed, calls=False).program(functions=1, statements=2, level=4)
            words = words_in(program_text(program))
            for at in range(1, len(words)):
                if words[at] != "(":
                    continue
                tried += 1
                try:
                    other = read(" ".join(without_brackets(words, at)))
                except BadText:
                    continue
                self.assertNotEqual(other, program)
        self.assertGreater(tried, 300)


if __name__ == "__main__":
    unittest.main()
