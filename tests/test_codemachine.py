"""[18]: code run, and the CHOICES of the run that does what compiled code does."""

import random
import unittest

from openorder.code import compiled, rows_of
from openorder.codemachine import code_choices, code_run
from openorder.errors import OtherInputs
from openorder.fitting import fitted
from openorder.machine import run, turns
from openorder.optimizer import PASSES, optimized
from openorder.reader import read
from openorder.watcher import accesses, first_conflict
from tests.codes import Told
from tests.programs import ALL, CALM, DEMO, listed, only_tuples
from tests.test_code import HEAD, P, made, main

DOWN = "fun down(int n) { return n < 1 ? 7 : down(n - 1); } "


def by_hand(rows, params=(), inner=(), others=()):
    """Return code of main with these ROWs over some globals."""
    entries = (("int", "x", 5), ("array", "a", 3), ("ref", "p", "x", 0))
    return (entries, tuple(others) + (("main", tuple(("int", name) for name in params), inner, tuple(rows)),))


def told(rows, inputs=(), **more):
    return code_run(by_hand(rows, **more), list(inputs))


class RowByRow(unittest.TestCase):
    def value(self, rows, inputs=(), **more):
        """Return what t of the last ROW is behind it."""
        last = rows[-1]
        return told(list(rows) + [("return", last[1], 0)], inputs, **more)[0][0]

    def test_temporaries(self):
        self.assertEqual(self.value([("num", 0, -7, 0)]), ("ended", -7))
        self.assertEqual(self.value([("num", 4, 9, 0), ("copy", 2, 4, 0)]), ("ended", 9))
        for sign, result in (("+", -2), ("-", -12), ("*", -35), ("/", -2), ("~", 3), ("<", 1), ("==", 0)):
            self.assertEqual(self.value([("num", 0, -7, 0), ("num", 1, 5, 0), ("op", 0, sign, 0, 1, 0)]), ("ended", result))
        self.assertEqual(self.value([("num", 0, 2147483647, 0), ("op", 1, "+", 0, 0, 0)]), ("ended", -2))
        self.assertEqual(self.value([("num", 0, -2147483648, 0), ("neg", 1, 0, 0)]), ("ended", -2147483648))
        self.assertEqual(self.value([("num", 0, 0, 0), ("not", 1, 0, 0)]), ("ended", 1))
        self.assertEqual(self.value([("num", 0, -3, 0), ("not", 1, 0, 0)]), ("ended", 0))
        self.assertEqual(self.value([("ref", 0, "x", 0, 0), ("get", 1, "p", 0), ("op", 2, "==", 0, 1, 0)]), ("ended", 1))
        self.assertEqual(self.value([("ref", 0, "a", 1, 0), ("get", 1, "p", 0), ("op", 2, "==", 0, 1, 0)]), ("ended", 0))

    def test_places(self):
        rows = [("num", 0, 2, 0), ("num", 1, 8, 0), ("puti", "a", 0, 1, 0), ("refi", 2, "a", 0, 0), ("put", "p", 2, 0),
                ("geti", 3, "a", 0, 0), ("put", "x", 3, 0), ("get", 4, "p", 0), ("getat", 5, 4, 0), ("op", 5, "+", 5, 1, 0),
                ("putat", 4, 5, 0), ("get", 6, "x", 0), ("print", 6, 0)]
        self.assertEqual(told(rows), ((("ended", 0), (8,), (8, (0, 0, 16), ("a", 2))), len(rows)))

    def test_params_locals_and_globals(self):
        rows = [("get", 0, "k", 0), ("put", "t", 0, 0), ("get", 1, "t", 0), ("put", "x", 1, 0), ("num", 2, 1, 0),
                ("put", "k", 2, 0), ("get", 3, "k", 0), ("print", 3, 0)]
        self.assertEqual(told(rows, [4], params=("k",), inner=(("int", "t"),))[0],
                         (("ended", 0), (1,), (4, (0, 0, 0), ("x", 0))))

    def test_where_code_goes_on(self):
        rows = [("get", 0, "k", 0), ("unless", 0, 4, 0), ("print", 0, 0), ("jump", 5, 0), ("return", 0, 0)]
        self.assertEqual(told(rows, [0], params=("k",)), ((("ended", 0), (), (5, (0, 0, 0), ("x", 0))), 3))
        self.assertEqual(told(rows, [3], params=("k",)), ((("ended", 0), (3,), (5, (0, 0, 0), ("x", 0))), 4))

    def test_calls(self):
        f = ("f", (("int", "m"), ("ref", "r")), (), (("get", 0, "m", 0), ("print", 0, 0), ("get", 1, "r", 0), ("putat", 1, 0, 0)))
        rows = [("num", 0, 1, 0), ("num", 1, 2, 0), ("arg", 0, 0), ("arg", 1, 0), ("refi", 3, "a", 1, 0), ("arg", 3, 0),
                ("call", 2, "f", 2, 0), ("arg", 2, 0), ("get", 4, "p", 0), ("arg", 4, 0), ("call", 5, "f", 2, 0), ("arg", 1, 0),
                ("arg", 4, 0), ("call", 6, "f", 2, 0), ("return", 6, 0)]
        self.assertEqual(told(rows, others=(f,))[0], (("ended", 0), (2, 0, 2), (2, (0, 0, 2), ("x", 0))))

    def test_slots_and_temporaries_are_those_of_one_body(self):
        f = ("f", (), (("int", "t"),), (("num", 0, 50, 0), ("num", 1, 60, 0), ("spill", 0, 0, 0), ("put", "t", 1, 0), ("return", 1, 0)))
        rows = [("num", 0, 3, 0), ("num", 1, 4, 0), ("spill", 0, 0, 0), ("put", "u", 1, 0), ("call", 2, "f", 0, 0), ("fill", 3, 0, 0),
                ("get", 4, "u", 0), ("print", 0, 0), ("print", 1, 0), ("print", 2, 0), ("print", 3, 0), ("print", 4, 0)]
        self.assertEqual(told(rows, inner=(("int", "u"),), others=(f,))[0][1], (3, 4, 60, 3, 4))

    def test_bodies_in_bodies_of_one_function(self):
        f = ("f", (("int", "n"),), (("int", "t"),), (
            ("get", 0, "n", 0), ("unless", 0, 10, 0), ("spill", 0, 0, 0), ("put", "t", 0, 0), ("num", 1, 1, 0),
            ("op", 1, "-", 0, 1, 0), ("arg", 1, 0), ("call", 2, "f", 1, 0), ("fill", 3, 0, 0), ("print", 3, 0),
            ("get", 4, "n", 0), ("return", 4, 0)))
        rows = [("num", 0, 3, 0), ("arg", 0, 0), ("call", 1, "f", 1, 0), ("return", 1, 0)]
        self.assertEqual(told(rows, others=(f,))[0][:2], (("ended", 3), (1, 2, 3)))

    def test_behind_the_last_row(self):
        self.assertEqual(told([]), ((("ended", 0), (), (5, (0, 0, 0), ("x", 0))), 0))
        f = ("f", (), (), ())
        self.assertEqual(told([("call", 0, "f", 0, 0), ("print", 0, 0)], others=(f,))[0][:2], (("ended", 0), (0,)))
        self.assertEqual(told([("num", 0, 1, 0), ("jump", 3, 0), ("return", 0, 0)])[0][0], ("ended", 0))

    def test_where_code_stops(self):
        for index in (-1, 3, 2147483647):
            front = [("num", 0, index, 0), ("num", 1, 1, 0)]
            for row in (("geti", 2, "a", 0, 7), ("refi", 2, "a", 0, 7), ("puti", "a", 0, 1, 7)):
                self.assertEqual(told(front + [row, ("print", 1, 0)]), ((("stopped", 7, "index"), (), (5, (0, 0, 0), ("x", 0))), 2))
        for sign in "/~":
            rows = [("num", 0, 4, 0), ("num", 1, 0, 0), ("print", 0, 0), ("op", 2, sign, 0, 1, 6), ("print", 0, 0)]
            self.assertEqual(told(rows), ((("stopped", 6, "nought"), (4,), (5, (0, 0, 0), ("x", 0))), 3))

    def test_too_deep(self):
        f = ("f", (), (), (("num", 0, 1, 0), ("print", 0, 0), ("call", 1, "f", 0, 5)))
        result, done = told([("call", 0, "f", 0, 0)], others=(f,))
        self.assertEqual((result[:2], done), ((("stopped", 5, "deep"), (1,) * 11), 1 + 11 * 2 + 10))


class AgainstRuns(unittest.TestCase):
    def test_kinds_of_rows(self):
        for text in ("7", "p = &x", "k ? p : &y", "print(x)", "a[1]", "*p", "p = &a[2]", "x = 3", "a[1] = 3", "*p = 3", "x + y",
                     "x - y", "x * y", "x / y", "x ~ y", "x < y", "x == y", "-x", "!x", "k && x", "k || x", "f(x)", "x += 4", "a[1] += 4",
                     "*p += 4", "x++", "a[1]++", "(*p)++", "x, y", "f(f(2))", "a[3]", "&a[-1] == p", "a[k] = 1", "1 / 0", "1 ~ x * 0"):
            program = main("print(1); " + text + "; print(2); return x;")
            for k in (0, 3):
                result = run(program, [k])
                for code in (rows_of(program), compiled(program, 3), fitted(rows_of(program), 3), optimized(program)):
                    found, _ = code_run(code, [k])
                    if result[0][0] == "ended":
                        self.assertEqual(found, result, (text, k))
                    else:
                        self.assertEqual((found[0][0], found[0][1:] in result[0][1]), ("stopped", True))

    def test_words_of_what_blocks(self):
        for text, word in (("a[3];", "index"), ("a[0 - 1] = 2;", "index"), ("a[9]++;", "index"), ("a[5] += 1;", "index"),
                           ("p = &a[3];", "index"), ("1 / 0;", "nought"), ("1 ~ 0;", "nought")):
            program = main("print(1); " + text + " print(2);")
            blocked = run(program, [0])[0][1]
            self.assertEqual(blocked[0][1], word)
            for code in (rows_of(program), compiled(program), optimized(program)):
                self.assertEqual(code_run(code, [0])[0][:2], (("stopped",) + blocked[0], (1,)))

    def test_the_deepest_body_calls_nothing(self):
        for n in range(9, 14):
            program = read(DOWN + "fun main(int k) { return down(k); }")
            result = run(program, [n])
            self.assertEqual(result[0][0], "ended" if n < 11 else "stuck")
            for code in (rows_of(program), compiled(program, 3), optimized(program)):
                told = ("ended", 7) if n < 11 else ("stopped",) + result[0][1][0]
                self.assertEqual(code_run(code, [n])[0][0], told)

    def test_the_most_rows(self):
        for program, inputs in ((P, [5]), (DEMO, [4]), (read(DOWN + "fun main() { return down(10); }"), [])):
            code = rows_of(program)
            result, done = code_run(code, inputs)
            self.assertEqual(result[0][0], "ended")
            self.assertEqual(code_run(code, inputs, most=done), (result, done))
            for most in range(1, done):
                found, many = code_run(code, inputs, most=most)
                self.assertEqual((found[0], many), (("going",), most))
        forever = compiled(read("int x = 0; fun main() { while (x < 1) { x = x * 2; } }"))
        self.assertEqual(code_run(forever, []), (((("going",), (), (0,))), 20000))

    def test_a_stop_behind_the_most_rows(self):
        code = rows_of(read("fun main(int k) { print(6 / k); }"))
        self.assertEqual(code_run(code, [0], most=2), ((("stopped", 2, "nought"), (), ()), 2))
        self.assertEqual(code_run(code, [0], most=1), ((("going",), (), ()), 1))
        self.assertEqual(code_run(code, [3], most=2), ((("going",), (), ()), 2))

    def test_programs_by_chance(self):
        ends = {}
        for seed in range(240):
            program = made(seed)
            chance = random.Random(seed)
            inputs = [chance.choice((3, 0, 1)), -1]
            codes = [rows_of(program), compiled(program, chance.randint(3, 8)), fitted(rows_of(program), 3), optimized(program)]
            for code in codes:
                most = chance.choice((20000, 60, 7, 1))
                kept = Told(code, inputs, most)
                self.assertEqual(code_run(code, inputs, most=most), (kept.outcome, kept.done))
                ends[kept.end[0]] = ends.get(kept.end[0], 0) + 1
        self.assertGreater(min(ends.values()), 60)

    def test_other_inputs(self):
        for program, inputs in ((P, []), (P, [1, 2]), (CALM, []), (read("fun main() { }"), [1])):
            for call in (lambda: code_run(compiled(program), inputs), lambda: code_choices(program, inputs)):
                with self.assertRaises(OtherInputs) as caught:
                    call()
                self.assertEqual(caught.exception.many, len(program[1][-1][1]))

    def test_lists_and_names(self):
        for program in ALL:
            inputs = tuple([4] * len(program[1][-1][1]))
            code = optimized(program)
            kept = listed(code)
            self.assertEqual(code_run(code=kept, inputs=inputs, most=500), code_run(code, list(inputs)))
            self.assertTrue(only_tuples(code_run(kept, inputs)))
            self.assertEqual(kept, listed(code))
            told = code_choices(program, list(inputs))
            self.assertEqual(code_choices(program=listed(program), inputs=inputs, registers=4, most=2000), told)
            self.assertIsInstance(told, list)


class Choices(unittest.TestCase):
    def test_example(self):
        self.assertEqual(code_choices(P, [5]), [])

    def check(self, program, inputs, registers, ends):
        """Check that the run does what the code does, access by access."""
        kept = Told(compiled(program, registers), inputs, 20000)
        choices = code_choices(program, inputs, registers)
        seen = [access[1:] for access in accesses(program, inputs, choices)]
        many = len(seen) if kept.end == ("going",) or run(program, inputs, choices)[0] == ("going",) else len(kept.log)
        self.assertEqual(seen[:many], kept.log[:many])
        if kept.end[0] == "ended" and many == len(kept.log):
            self.assertEqual(run(program, inputs, choices), kept.outcome)
        self.assertTrue(choices == [] or choices[-1] != 0)
        for most in (1, 5, 40):
            first = choices[:most]
            while first and first[-1] == 0:
                first.pop()
            self.assertEqual(code_choices(program, inputs, registers, most=most), first)
        ends[kept.end[0]] = ends.get(kept.end[0], 0) + 1
        return choices

    def test_programs_by_chance(self):
        ends, conflicts = {}, 0
        for seed in range(130):
            program = made(seed)
            inputs = [random.Random(seed).choice((3, 0, 1)), -1]
            for registers in range(3, 9):
                choices = self.check(program, inputs, registers, ends)
                conflicts += first_conflict(program, inputs, choices, most=200) is not None
        self.assertGreater(min(ends["ended"], ends["stopped"], conflicts), 100)

    def test_the_second_part_first(self):
        program = read("int x = 3; fun f(int n) { x = n; return n; } fun main() { print(x + f(1)); }")
        choices = code_choices(program, [])
        self.assertEqual(run(program, [], choices)[1], (2,))
        self.assertEqual(run(program, [])[1], (4,))
        self.assertEqual([turn[1:] for turn in turns(program, [], choices)][:2], [(5, "call"), (0, "step")])
        chain = read("int x = 1; int y = 2; fun main() { print(x + (y + (x + (y + 1)))); }")
        self.assertEqual(code_choices(chain, [], 8), [])
        self.assertNotEqual([turn[1] for turn in turns(chain, [], code_choices(chain, [], 3))][0], 0)

    def test_up_to_where_code_stops(self):
        program = read(HEAD + "fun main(int k) { print(1); print(2) + 1 / k + print(3); }")
        first = run(program, [0], code_choices(program, [0]))
        self.assertEqual(code_run(compiled(program), [0])[0][0], ("stopped", 11, "nought"))
        self.assertEqual(first[0], ("stuck", ((11, "nought"),)))
        # Blocked in a call, in which other steps come behind the blocked one and are not done.
        inner = read("int x = 3; fun f(int n) { return (1 / n) + (x = 7); } fun main(int k) { return x + f(k); }")
        self.assertEqual(code_run(compiled(inner), [0])[0], (("stopped", 2, "nought"), (), (3,)))
        self.assertEqual(code_choices(inner, [0]), [1, 1])

    def test_optimized_code_ends_as_the_run_without_conflicts(self):
        for seed in range(40):
            program = made(seed)
            inputs = [3, -1]
            if run(program, inputs)[0][0] == "ended" and first_conflict(program, inputs) is None:
                chance = random.Random(seed)
                for registers in range(3, 9):
                    self.assertEqual(run(program, inputs, code_choices(program, inputs, registers)), run(program, inputs))
                    words = [chance.choice(PASSES) for _ in range(5)]
                    self.assertEqual(code_run(fitted(optimized(program, words), registers), inputs)[0], run(program, inputs))


if __name__ == "__main__":
    unittest.main()
