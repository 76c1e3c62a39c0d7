"""[18]: the ROWs that rows_of and compiled return."""

import random
import time
import unittest

from openorder.code import compiled, rows_of
from openorder.codemachine import code_run
from openorder.kinds import fault_of
from openorder.machine import run
from openorder.needs import best_plan, fewest_spills
from openorder.nodes import node_at, node_many, top_at
from openorder.reader import read
from tests.codes import Told, many_rows, temporaries, written, wrong_rows
from tests.maker import Clasher, Looper, Maker
from tests.programs import ALL, TWICE, listed, only_tuples

P = read("int x = 0; fun main(int k) { x = k + 2; print(x); }")
Q = read("fun main(int k) { print(1); print(6 / k); }")
HEAD = "int x = 5; int y = 2; int a[3]; ref p = &x; fun f(int n) { x = n; return n + 1; } "

# The nodes from which a ROW may come.
SOURCES = {
    "num": ("num", "inc", "and", "or"), "ref": ("ref",), "copy": ("cond",), "get": ("var", "add", "inc"),
    "geti": ("item", "add", "inc"), "getat": ("at", "add", "inc"), "refi": ("refitem",), "put": ("set", "add", "inc"),
    "puti": ("set", "add", "inc"), "putat": ("set", "add", "inc"), "op": ("op", "add", "inc"), "neg": ("neg",),
    "not": ("not", "and", "or"), "arg": ("call",), "call": ("call",), "print": ("print",),
}


def made(seed, level=4):
    """Return a sound program by chance."""
    chance = random.Random(seed)
    maker = (Maker, Clasher, Looper)[seed % 3](seed)
    program = maker.program(functions=chance.randint(1, 3), statements=chance.randint(1, 5), level=chance.randint(2, level))
    assert fault_of(program) is None
    return program


def main(body, head=HEAD):
    return read(head + "fun main(int k) { " + body + " }")


def rows(program, name="main"):
    return [routine[3] for routine in rows_of(program)[1] if routine[0] == name][0]


def tops(program):
    """Return the last nodes of the full expressions, by functions."""
    found, many = [], 0
    for function in program[1]:
        more = node_many(((), (function,)))
        found.append(sorted({top_at(program, node) for node in range(many, many + more)}))
        many += more
    return found


class Examples(unittest.TestCase):
    def test_examples(self):
        self.assertEqual([code_run(compiled(P), [5])[0], code_run(compiled(Q), [0])[0]],
                         [(("ended", 0), (7,), (7,)), (("stopped", 4, "nought"), (1,), ())])

    def test_the_examples_of_the_document(self):
        for program in ALL:
            inputs = [4] * len(program[1][-1][1])
            for code in [rows_of(program)] + [compiled(program, registers) for registers in range(3, 9)]:
                self.assertEqual(wrong_rows(code, node_many(program)), [])
                if program is TWICE:
                    self.assertEqual(code_run(code, inputs)[0], run(program, inputs))


class Form(unittest.TestCase):
    def test_globals_names_params_and_locals(self):
        program = read("int x = -3; int a[4]; ref p = &a[2]; fun f(ref r, int n) { } fun main(int k) { int t = 1; "
                       "while (k < 3) { ref u = &x; if (k) { int v = 2; } else { int w = 3; } k += 1; } int z = t; }")
        for code in (rows_of(program), compiled(program), compiled(program, 8)):
            self.assertEqual(code[0], (("int", "x", -3), ("array", "a", 4), ("ref", "p", "a", 2)))
            self.assertEqual([routine[:3] for routine in code[1]], [
                ("f", (("ref", "r"), ("int", "n")), ()),
                ("main", (("int", "k"),), (("int", "t"), ("ref", "u"), ("int", "v"), ("int", "w"), ("int", "z")))])
            self.assertEqual(code[1][0][3], ())
            self.assertTrue(only_tuples(code))

    def test_lists_and_names(self):
        for program in ALL:
            kept = listed(program)
            self.assertEqual(rows_of(program=kept), rows_of(program))
            self.assertEqual(compiled(program=kept, registers=5), compiled(program, 5))
            self.assertEqual(compiled(kept), compiled(program, 4))
            self.assertTrue(only_tuples(rows_of(kept)) and only_tuples(compiled(kept)))
            self.assertEqual(kept, listed(program))

    def test_the_nodes_from_which_rows_come(self):
        for seed in range(120):
            program = made(seed)
            for code in (rows_of(program), compiled(program, 3 + seed % 6)):
                self.assertEqual(wrong_rows(code, node_many(program)), [])
                for _, _, _, made_rows in code[1]:
                    for row in made_rows:
                        word = node_at(program, row[-1])[0]
                        if row[0] in SOURCES:
                            self.assertIn(word, SOURCES[row[0]])
                        elif row[0] == "return":
                            self.assertEqual(top_at(program, row[-1]), row[-1])
                        elif row[0] in ("unless", "jump"):
                            self.assertTrue(word in ("and", "or", "cond") or top_at(program, row[-1]) == row[-1])
                        else:
                            self.assertIn(word, ("op", "set", "add"))

    def test_the_nodes_of_an_if_and_a_while(self):
        program = read("fun main(int k) { while (k < 3) { if (k == 1) { k += 2; } else { k++; } } return k; }")
        found = [(row[0], row[-1]) for row in rows(program) if row[0] in ("unless", "jump", "return")]
        self.assertEqual(found, [("unless", 2), ("unless", 5), ("jump", 5), ("jump", 2), ("return", 9)])

    def test_the_nodes_of_and_or_and_cond(self):
        for text, top in (("k && 1", 2), ("k || 1", 2), ("k ? 1 : 2", 3)):
            program = read("fun main(int k) { " + text + "; }")
            self.assertEqual([row[-1] for row in rows(program) if row[0] in ("unless", "jump")], [top, top])


class Rows(unittest.TestCase):
    def check_writers(self, program):
        """Check that each temporary is written by one ROW, of and, or, cond by one on each way."""
        for routine in rows_of(program)[1]:
            writers = {}
            for at, row in enumerate(routine[3]):
                self.assertNotIn(row[0], ("spill", "fill"))
                for temporary in written(row):
                    writers.setdefault(temporary, []).append(at)
            for places in writers.values():
                if len(places) == 1:
                    continue
                self.assertEqual(len(places), 2)
                one, other = (routine[3][place] for place in places)
                self.assertEqual(one[-1], other[-1])
                self.assertIn(node_at(program, one[-1])[0], ("and", "or", "cond"))
                jumps = [row for row in routine[3][places[0] + 1:places[1]] if row[0] == "jump" and row[-1] == one[-1]]
                self.assertEqual(len(jumps), 1)
                self.assertGreater(jumps[0][1], places[1])
            numbers = temporaries(routine)
            self.assertEqual(numbers, set(range(len(numbers))))

    def test_each_temporary_is_written_once(self):
        for seed in range(150):
            self.check_writers(made(seed))

    def test_rows_of_small_programs(self):
        self.assertEqual(rows(P), (("get", 0, "k", 0), ("num", 1, 2, 1), ("op", 2, "+", 0, 1, 2), ("put", "x", 2, 3),
                                   ("get", 3, "x", 4), ("print", 3, 5)))
        self.assertEqual(rows(read("fun main() { }")), ())

    def test_from_left_to_right(self):
        ended = 0
        for seed in range(400):
            program = made(seed)
            result = run(program, [3, -1])
            found, done = code_run(rows_of(program), [3, -1])
            if result[0][0] == "ended":
                ended += 1
                self.assertEqual(found, result)
            elif result[0][0] == "stuck":
                self.assertEqual(found[0][0], "stopped")
                self.assertIn(found[0][1:], result[0][1])
                self.assertEqual(found[1], result[1][:len(found[1])])
        self.assertGreater(ended, 250)

    def test_late_writes_are_made_at_once(self):
        program = read("int x = 1; fun main() { print(x++ + x); print((x = 5) + x); print(x + (x += 2)); }")
        self.assertEqual(code_run(rows_of(program), [])[0], (("ended", 0), (3, 10, 12), (7,)))


class Compiled(unittest.TestCase):
    def check(self, program, inputs=(3, -1)):
        """Check the code for all numbers of registers; a run without conflicts has its RESULT."""
        result = run(program, inputs)
        for registers in range(3, 9):
            code = compiled(program, registers)
            self.assertEqual(wrong_rows(code, node_many(program)), [])
            for routine in code[1]:
                self.assertTrue(all(temporary < registers for temporary in temporaries(routine)))
            told = [sum(fewest_spills(node_at(program, top), registers) for top in each) for each in tops(program)]
            self.assertEqual(many_rows(code, "spill"), told)
            self.assertEqual(many_rows(code, "fill"), told)
            found, done = code_run(code, inputs)
            self.assertEqual((found, done), (Told(code, inputs).outcome, Told(code, inputs).done))
            yield registers, code, found, result

    def test_temporaries_and_spills(self):
        for seed in range(90):
            for _ in self.check(made(seed)):
                pass

    def test_statements_that_are_never_reached_are_compiled(self):
        program = main("return 1; print(f(1) + f(2)); while (f(3) - f(4)) { }")
        for _ in self.check(program, [1]):
            pass

    def test_kinds_of_expressions(self):
        many = 0
        for text in ("x + (y + (x + (y + (x + (y + k)))))", "((((x + y) + x) + y) + x) + k", "x +# (y +# (k +# (x +# y)))",
                     "f(1) + f(2)", "f(f(1) + x) - f(y)", "x + f(1)", "f(1) + x", "x +# f(1)", "f(1) +# f(2)",
                     "a[x - 4] = y", "a[f(0)] = f(1)", "a[y] += x", "a[f(0)] += f(1) + y", "(*p)++", "a[y]++", "a[k]++ + a[y]++",
                     "*p = y", "*p += y", "*(k ? &y : &a[1]) = x + y * 2", "x = y = a[1] = 4", "x++ + y", "k && x || !y",
                     "k ? x : y", "k ? f(1) : f(2)", "(x, y, k)", "p = &a[2], *p = 3, a[2]", "&x == p", "-x + !y ~ 3",
                     "f(x) + (k && f(y)) * (x ? y : a[k])", "print(print(x) + y)", "a[a[a[k]]]", "(x + y) * (x - y) + (k * x - y / 2)"):
            for k in (0, 1, 7):
                for registers, _, found, result in self.check(main("print((" + text + ")); return x;"), [k]):
                    if result[0][0] == "ended" and registers == 8 and "f" not in text:
                        many += 1
                        self.assertEqual(found, result, (text, k))
        self.assertGreater(many, 50)

    def test_the_part_worked_out_first(self):
        program = main("x + f(1);")
        self.assertEqual(best_plan(node_at(program, 8), 4), [(3, 1, "keep")])
        self.assertEqual([row[0] for row in compiled(program)[1][1][3]], ["num", "arg", "call", "get", "op"])
        program = main("x +# f(1);")
        self.assertEqual([row[0] for row in compiled(program)[1][1][3]], ["get", "spill", "num", "arg", "call", "fill", "op"])

    def test_great_expressions_in_fair_time(self):
        start = time.process_time()
        for seed in range(12):
            chance = random.Random(seed)

            def grown(nodes, level):
                if nodes < 3 or level == 1:
                    return ("var", chance.choice(("x", "y"))) if chance.random() < 0.9 else ("call", "f", (), 0)
                left = chance.randrange(1, nodes - 1)
                return ("op", "+", grown(left, level - 1), grown(nodes - 1 - left, level - 1), int(chance.random() < 0.2))

            program = ((("int", "x", 1), ("int", "y", 2)),
                       (("f", (), (("return", ("var", "x")),)), ("main", (), (("return", grown(30, 12)),))))
            for _, _, found, result in self.check(program, []):
                self.assertEqual(found, result)
        self.assertLess(time.process_time() - start, 60)


if __name__ == "__main__":
    unittest.main()
