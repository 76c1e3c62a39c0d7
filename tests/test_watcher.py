"""[11]: accesses and conflicts of runs."""

import random
import unittest

from openorder.errors import OtherInputs
from openorder.machine import run, turns
from openorder.reader import read
from openorder.watcher import accesses, conflicts, first_conflict, is_calm
from tests.maker import Clasher, Maker
from tests.plain import Plain
from tests.programs import CALLS, CALM, CLASH, DEMO, PAIR, TWICE, TWO, listed, only_tuples
from tests.runs import conflicts_by_pairs, first_by_pairs

HEAD = "int x = 5; int y = 0; int a[3]; ref p = &x; "
X, Y, P, OUT = ("global", "x", 0), ("global", "y", 0), ("global", "p", 0), ("output",)


def main(body, head=HEAD):
    return read(head + "fun main(int k) { " + body + " }")


def seen(body, k=0, choices=(), head=HEAD):
    """Return the accesses of a run without their turns."""
    return [access[1:] for access in accesses(main(body, head), [k], choices)]


def met(body, k=0, choices=(), head=HEAD):
    """Return the conflicts of a run."""
    return conflicts(main(body, head), [k], choices)


class Examples(unittest.TestCase):
    def test_examples(self):
        self.assertEqual(accesses(TWO, []), [(0, X, "read"), (1, X, "write"), (2, X, "read"), (4, OUT, "write")])
        self.assertEqual((first_conflict(TWO, []), first_conflict(TWO, [], [1])),
                         ((X, ((0,), "write"), ((1,), "read")), (X, ((1,), "read"), ((0,), "write"))))
        self.assertEqual((conflicts(CALLS, []), is_calm(PAIR, []), is_calm(TWO, [])),
                         ([(X, ((4, 1), "write"), ((6, 1), "write"))], True, False))

    def test_the_other_programs(self):
        self.assertEqual([is_calm(CALM, [7]), is_calm(CLASH, [7]), is_calm(TWICE, [7]), is_calm(DEMO, [7])],
                         [True, False, True, False])
        self.assertEqual(conflicts(CALM, [7]), [])
        self.assertEqual(conflicts(CLASH, [7]), [(X, ((0,), "read"), ((2,), "write"))])
        self.assertEqual(conflicts(TWICE, [7]), [])
        self.assertEqual(conflicts(TWICE, [0]), [(Y, ((6,), "read"), ((8,), "write")), (Y, ((8,), "write"), ((11,), "read"))])


class Accesses(unittest.TestCase):
    def test_variables(self):
        self.assertEqual(seen("x; k; p; 7; &x;"), [(X, "read"), (("local", 0, "k"), "read"), (P, "read")])
        self.assertEqual(seen("int t = x; t;"), [(X, "read"), (("local", 0, "t"), "write"), (("local", 0, "t"), "read")])
        self.assertEqual(seen("ref r = p; r;"), [(P, "read"), (("local", 0, "r"), "write"), (("local", 0, "r"), "read")])

    def test_cells_and_references(self):
        self.assertEqual(seen("a[2]; a[k];", 1), [(("global", "a", 2), "read"), (("local", 0, "k"), "read"),
                                                 (("global", "a", 1), "read")])
        self.assertEqual(seen("*p; *&a[1]; &a[1];"), [(P, "read"), (X, "read"), (("global", "a", 1), "read")])

    def test_changes(self):
        self.assertEqual(seen("x = 1; x += 1; x++;"), [(X, "write")] + [(X, "read"), (X, "write")] * 2)
        cell = ("global", "a", 1)
        self.assertEqual(seen("a[1] = 1; a[1] += 1; a[1]++;"), [(cell, "write")] + [(cell, "read"), (cell, "write")] * 2)
        self.assertEqual(seen("*p = 1; *p += 1; (*p)++;"),
                         [(P, "read"), (X, "write")] + [(P, "read"), (X, "read"), (X, "write")] * 2)
        k = ("local", 0, "k")
        self.assertEqual(seen("k = 1; k += 1; k++;"), [(k, "write")] + [(k, "read"), (k, "write")] * 2)
        self.assertEqual(seen("p = &y;"), [(P, "write")])

    def test_the_output(self):
        self.assertEqual(seen("print(print(1));"), [(OUT, "write"), (OUT, "write")])

    def test_what_makes_none(self):
        self.assertEqual(seen("1 + 2; -1; !1; 1 && 1; 1 || 0; 1 ? 2 : 3; 1, 2; &a[0]; 1 == 2;"), [])

    def test_turns_are_counted(self):
        self.assertEqual(accesses(PAIR, []), [(0, X, "read"), (1, X, "write"), (3, Y, "write")])
        self.assertEqual(accesses(PAIR, [], [0, 1, 1]), [(0, X, "read"), (2, Y, "write"), (3, X, "write")])

    def test_parameters_are_filled_in_without_an_access(self):
        program = read("int x = 0; fun f(int n, int m) { x = m; } fun g() { f(1, 2); } fun main(int k) { g(); f(k, 3); }")
        self.assertEqual(accesses(program, [4]), [
            (2, ("local", 2, "m"), "read"), (4, X, "write"), (5, ("local", 0, "k"), "read"),
            (7, ("local", 3, "m"), "read"), (9, X, "write")])

    def test_bodies_are_numbered_as_they_begin(self):
        program = read("fun f(int n) { return n; } fun main() { return f(1) - f(2); }")
        self.assertEqual(accesses(program, []), [(1, ("local", 1, "n"), "read"), (3, ("local", 2, "n"), "read")])
        self.assertEqual([place for _, place, _ in accesses(program, [], [1])],
                         [("local", 1, "n"), ("local", 2, "n")])

    def test_a_blocked_step_makes_none(self):
        for body in ("a[3];", "a[3] += 1;", "a[3]++;", "a[3] = 1;", "print(1 / 0);"):
            self.assertEqual(seen(body), [])
        self.assertEqual(seen("a[3] + x;"), [(X, "read")])

    def test_runs_that_are_cut(self):
        self.assertEqual(accesses(TWO, [], most=2), [(0, X, "read"), (1, X, "write")])
        self.assertEqual(len(accesses(main("while (x) { }"), [0])), 2000)


class Conflicts(unittest.TestCase):
    def test_places(self):
        self.assertEqual(met("x + x; y = x; k + k;"), [])
        self.assertEqual(met("a[0] + (a[1] = 3);"), [])
        self.assertEqual(met("a[k] + (a[0] = 3);", 1), [])
        self.assertEqual(met("a[k] + (a[0] = 3);"), [(("global", "a", 0), ((1,), "read"), ((4,), "write"))])
        self.assertEqual(met("*p + (x = 3);"), [(X, ((1,), "read"), ((3,), "write"))])
        self.assertEqual(met("*p + (p = &y, 1);"), [(P, ((0,), "read"), ((3,), "write"))])
        self.assertEqual(met("k++ + k;"), [(("local", 0, "k"), ((0,), "write"), ((1,), "read"))])
        self.assertEqual(met("print(1) + print(2);"), [(OUT, ((1,), "write"), ((3,), "write"))])
        self.assertEqual(met("x = x++;"), [(X, ((0,), "write"), ((1,), "write"))])
        self.assertEqual(met("a[0] = a[1]++;"), [])

    def test_reads_and_writes_of_changes(self):
        self.assertEqual(met("(x += 1) + (x = 2);"), [(X, ((1,), "read"), ((3,), "write")),
                                                     (X, ((1,), "write"), ((3,), "write"))])
        self.assertEqual(met("x++ + x++;"), [(X, ((0,), "read"), ((1,), "write")), (X, ((0,), "write"), ((1,), "read")),
                                             (X, ((0,), "write"), ((1,), "write"))])
        self.assertEqual(met("x += x;"), [])
        self.assertEqual(met("x = x + 1;"), [])
        self.assertEqual(met("x += (x = 1);"), [(X, ((1,), "write"), ((2,), "read")), (X, ((1,), "write"), ((2,), "write"))])

    def test_within_one_full_expression_only(self):
        self.assertEqual(met("x = 1; x = 2; print(x); print(x++);"), [])
        self.assertEqual(met("int t = 1; t = 2; return t++;"), [])
        self.assertEqual(met("if (x++) { x; } y;"), [])

    def test_rounds_of_a_loop_are_apart(self):
        self.assertEqual(met("while (y++ < 3) { x = y; }"), [])
        self.assertEqual(met("while (y < 3) { y = y + 1; }"), [])

    def test_one_pair_is_told_once(self):
        body = "while (y < 3) { y = (x = 1) * (x = 1) + y + 1; }"
        self.assertEqual(met(body), [(X, ((4,), "write"), ((6,), "write"))])
        text = "int x = 0; fun f(int n) { while (n) { n = n - 1; x = 1; } } fun main() { f(3) + x; }"
        self.assertEqual(conflicts(read(text), []), [(X, ((8, 6), "write"), ((9,), "read"))])

    def test_both_ways_about_in_one_run(self):
        body = "while (y < 2) { y = y + ((x = 1) * (x = 1)); }"
        choices = [0, 0] + [0] * 9 + [0] * 2
        found = set()
        for number in range(200):
            chance = random.Random(number)
            found |= {len(met(body, 0, [chance.randrange(4) for _ in range(40)]))}
        self.assertEqual((found, len(met(body, 0, choices))), ({1, 2}, 1))

    def test_order_makes_none(self):
        for body in ("x++ && x++;", "x++ || x;", "x++ ? x++ : (x = 2);", "x++, x++;", "x =# x++;", "x++ +# x++;",
                     "print(1) +# print(2);", "a[k++] +=# k;", "x = (x++, 2) +# x;"):
            with self.subTest(body=body):
                self.assertEqual(met(body), [])
        self.assertEqual(len(met("(x++ && y) + x;")), 1)
        self.assertEqual(len(met("(x++ +# y) + x;")), 1)

    def test_marks(self):
        self.assertEqual(met("x = (x = 1) + 0;"), [(X, ((1,), "write"), ((4,), "write"))])
        self.assertEqual(met("x =# (x = 1) + 0;"), [])
        self.assertEqual(met("x = (x = 1) +# 0;"), [])
        self.assertEqual(met("x = -#-(x = 1);"), [])
        text = "int x = 0; fun f(int n, int m) { } fun main() { f(x++, x); }"
        self.assertEqual(len(conflicts(read(text), [])), 1)
        self.assertEqual(conflicts(read(text.replace("f(x", "f#(x")), []), [])

    def test_through_calls(self):
        head = "int x = 5; fun f() { x = 1; return 2; } "
        self.assertEqual(met("x + f();", head=head), [(X, ((3,), "read"), ((4, 1), "write"))])
        self.assertEqual(met("x += f();", head=head), [])
        self.assertEqual(met("x = f();", head=head), [])
        self.assertEqual(met("x = f() + f();", head=head), [(X, ((3, 1), "write"), ((4, 1), "write"))])
        self.assertEqual(met("f() +# f();", head=head), [])
        self.assertEqual(met("f(); x; f();", head=head), [])
        self.assertEqual(met("x++ + f();", head=head), [(X, ((3,), "read"), ((4, 1), "write")),
                                                       (X, ((3,), "write"), ((4, 1), "write"))])

    def test_in_calls_within_calls(self):
        head = "int x = 5; fun f() { x = 1; } fun g() { f(); return x + f(); } "
        self.assertEqual(met("g();", head=head), [(X, ((3,), "read"), ((4, 1), "write"))])
        self.assertEqual(met("g() + x;", head=head), [(X, ((3,), "read"), ((4, 1), "write")),
                                                     (X, ((6, 2, 1), "write"), ((7,), "read")),
                                                     (X, ((6, 4, 1), "write"), ((7,), "read"))])
        self.assertEqual(first_conflict(main("g() + x;", head), [0]), (X, ((3,), "read"), ((4, 1), "write")))
        head = "int x = 5; fun f() { x = 1; } fun g() { f(); x; } "
        self.assertEqual(met("g() + x;", head=head), [(X, ((4, 2, 1), "write"), ((5,), "read"))])

    def test_locals_of_other_bodies(self):
        head = "fun f(int n) { n = n + 1; int t = n; return t; } "
        self.assertEqual(met("k = f(1) + f(2);", head=head), [])
        self.assertEqual(met("f(1) + (k = f(2)) * k;", head=head),
                         [(("local", 0, "k"), ((11,), "write"), ((12,), "read"))])

    def test_first_conflict(self):
        self.assertIsNone(first_conflict(CALM, [7]))
        body = "x + (x + (x = 1));"
        self.assertEqual(first_conflict(main(body), [0]), (X, ((1,), "read"), ((3,), "write")))
        self.assertEqual(first_conflict(main(body), [0], [1]), (X, ((0,), "read"), ((3,), "write")))
        body = "(x = 1) + x + (y = 1) + y;"
        self.assertEqual(first_conflict(main(body), [0]), (X, ((1,), "write"), ((2,), "read")))
        self.assertEqual(first_conflict(main(body), [0], [2, 2, 2]), (Y, ((5,), "write"), ((7,), "read")))
        body = "x++ + (x + (x = 9));"
        self.assertEqual(first_conflict(main(body), [0], [1, 1, 1]), (X, ((1,), "read"), ((3,), "write")))

    def test_runs_that_are_cut(self):
        program = main("x++ + x;")
        self.assertEqual([len(conflicts(program, [0], most=most)) for most in (1, 2, 3, 4)], [0, 0, 1, 1])
        self.assertEqual([first_conflict(program, [0], most=most) for most in (2, 3)],
                         [None, (X, ((0,), "write"), ((1,), "read"))])
        self.assertEqual([is_calm(CALM, [7], most=most) for most in (len(turns(CALM, [7])) - 1, len(turns(CALM, [7])))],
                         [False, True])
        self.assertFalse(is_calm(main("while (1 < 2) { }"), [0]))
        self.assertEqual(met("while (1 < 2) { x = x++; }"), [(X, ((3,), "write"), ((4,), "write"))])

    def test_runs_that_are_stuck(self):
        program = main("a[3] + (x = 1) + x;")
        self.assertEqual(run(program, [0])[0][0], "stuck")
        self.assertEqual(conflicts(program, [0]), [(X, ((3,), "write"), ((5,), "read"))])
        self.assertTrue(is_calm(main("1 / 0 + x++;"), [0]))
        text = "int x = 0; fun f() { x = 1; return 1 / 0; } fun main() { f() + x; }"
        self.assertEqual(conflicts(read(text), []), [(X, ((5, 1), "write"), ((6,), "read"))])

    def test_accesses_often_enough(self):
        program = main("while (1 < 2) { x = x + 1; }")
        self.assertEqual(conflicts(program, [0]), [])
        self.assertIsNone(first_conflict(program, [0]))


class ByChance(unittest.TestCase):
    def test_accesses_from_left_to_right(self):
        compared = 0
        for seed in range(300):
            program = Maker(seed).program(functions=3, statements=3, level=3)
            if run(program, [3, -1])[0][0] == "ended":
                compared += 1
                self.assertEqual([access[1:] for access in accesses(program, [3, -1])], Plain(program, [3, -1]).log)
        self.assertGreater(compared, 100)

    def test_conflicts_against_all_pairs(self):
        many = 0
        for seed in range(120):
            chance = random.Random(seed)
            program = Clasher(seed).program(chance.randint(1, 3), statements=2, level=chance.randint(2, 4))
            choices = [chance.choice((0, 0, 1, 2, 9)) for _ in range(40)]
            found = conflicts(program, [3, -1], choices, most=60)
            many += len(found)
            self.assertEqual(found, conflicts_by_pairs(program, [3, -1], choices, 60))
            self.assertEqual(first_conflict(program, [3, -1], choices, most=60),
                             first_by_pairs(program, [3, -1], choices, 60))
        self.assertGreater(many, 300)


class Arguments(unittest.TestCase):
    def test_other_inputs(self):
        for asked in (accesses, conflicts, first_conflict, is_calm):
            with self.assertRaises(OtherInputs) as caught:
                asked(CALM, [])
            self.assertEqual(caught.exception.many, 1)

    def test_lists_tuples_and_names(self):
        for asked in (accesses, conflicts, first_conflict, is_calm):
            for program, inputs in ((TWICE, [0]), (CALLS, []), (CLASH, [3])):
                kept = listed(program)
                found = asked(program=kept, inputs=tuple(inputs), choices=(1, 1), most=2000)
                self.assertEqual(found, asked(program, inputs, [1, 1]))
                self.assertEqual(kept, listed(program))
                self.assertTrue(not isinstance(found, list) or all(only_tuples(part) for part in found))
            with self.assertRaises(TypeError):
                asked(CALM, [7], [], 5)

    def test_great_choices(self):
        self.assertEqual(conflicts(CLASH, [5], [2 ** 70] * 50), conflicts(CLASH, [5], [1, 1, 1]))


if __name__ == "__main__":
    unittest.main()
