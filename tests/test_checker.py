"""[15]: programs checked without running them."""

import random
import unittest

from openorder.checker import first_refused, is_let_by, may_access, refused
from openorder.errors import NoItem
from openorder.kinds import fault_of
from openorder.machine import run, turns
from openorder.nodes import node_many
from openorder.reader import read
from openorder.watcher import accesses, conflicts, is_calm
from tests.maker import Clasher, Maker
from tests.naive import Naive, naive_access, naive_refused
from tests.programs import ALL, CALLS, CALM, CLASH, DEMO, PAIR, TWICE, TWO, listed, only_tuples

AIMED = read("int x = 0; int a[3]; ref r = &x; fun f(ref s) { r = s; } fun main() { f(&a[1]); *r = 2; }")
HEAD = "int x = 0; int y = 0; int a[3]; int b[3]; ref r = &x; "


def main(body, head=HEAD):
    program = read(head + "fun main(int k) { " + body + " }")
    assert fault_of(program) is None, fault_of(program)
    return program


def may(body, node, kind="step"):
    """Return what an item of main may access."""
    return may_access(main(body), (node, kind))


def names(body, head=HEAD):
    """Return the refused pairs as the numbers of their nodes and the name."""
    return [(one[0], other[0], name) for one, other, name in refused(main(body, head))]


class Examples(unittest.TestCase):
    def test_examples(self):
        self.assertEqual([may_access(AIMED, (4, "call")), may_access(AIMED, (7, "write"))],
                         [[("r", "write")], [("a", "write"), ("x", "write")]])
        self.assertEqual(refused(read("int x = 0; fun main() { x = x++; print(x) + print(1); }")),
                         [((0, "write"), (1, "write"), "x"), ((3, "step"), (5, "step"), "")])
        self.assertTrue(is_let_by(read("int a[2]; fun main() { a[0] = a[1]++; }")))

    def test_the_other_programs(self):
        self.assertEqual([is_let_by(program) for program in ALL], [False, True, False, False, True, False, False])
        self.assertEqual(refused(DEMO), [((6, "call"), (7, "step"), "x"), ((6, "call"), (7, "write"), "x")])
        self.assertEqual(refused(CALLS), [((4, "call"), (6, "call"), "x")])
        self.assertEqual([refused(CALM), refused(PAIR), first_refused(CALM)], [[], [], None])
        self.assertEqual(refused(TWO), [((0, "write"), (1, "step"), "x")])
        self.assertEqual([told[2] for told in refused(TWICE)], ["y", "y"])
        self.assertEqual(first_refused(CLASH), ((0, "step"), (2, "write"), "x"))


class MayAccess(unittest.TestCase):
    def test_steps(self):
        self.assertEqual([may("x;", 0), may("k;", 0), may("r;", 0)], [[("x", "read")], [("k", "read")], [("r", "read")]])
        self.assertEqual([may("a[1];", 1), may("*r;", 1), may("&a[1];", 1)], [[("a", "read")], [("x", "read")], []])
        self.assertEqual([may("-x;", 1), may("!x;", 1), may("x + y;", 2), may("x && y;", 2)], [[]] * 4)
        self.assertEqual([may("x || y;", 2), may("x ? y : k;", 3), may("x, y;", 2)], [[]] * 3)
        self.assertEqual(may("print(x);", 1), [("", "write")])
        self.assertEqual(may("x = 1;", 1), [])
        self.assertEqual([may("x += 1;", 1), may("x++;", 0), may("k++;", 0)],
                         [[("x", "read")], [("x", "read")], [("k", "read")]])
        self.assertEqual([may("a[0] += 1;", 2), may("a[0]++;", 1), may("(*r)++;", 1), may("*r += 1;", 2)],
                         [[("a", "read")], [("a", "read")], [("x", "read")], [("x", "read")]])

    def test_writes(self):
        self.assertEqual([may("x = 1;", 1, "write"), may("k += 1;", 1, "write"), may("x++;", 0, "write")],
                         [[("x", "write")], [("k", "write")], [("x", "write")]])
        self.assertEqual([may("a[0] = 1;", 2, "write"), may("*r = 1;", 2, "write"), may("r = &y;", 1, "write")],
                         [[("a", "write")], [("x", "write")], [("r", "write")]])
        self.assertEqual(may("int t = 1;", 1, "write"), [("t", "write")])
        self.assertEqual(may("*r = 1; r = &b[1];", 2, "write"), [("b", "write"), ("x", "write")])
        self.assertEqual(may("*(k ? &y : &a[1]) = 1;", 6, "write"), [("a", "write"), ("y", "write")])

    def test_calls(self):
        text = HEAD + ("fun f(int n) { n = n + 1; return x; } fun g(ref s) { *s = f(1); print(y); a[0]++; } "
                       "fun main() { g(&b[1]) + f(2); }")
        program = read(text)
        self.assertEqual(may_access(program, (15, "call")),
                         [("", "write"), ("a", "read"), ("a", "write"), ("b", "write"), ("x", "read"), ("y", "read")])
        self.assertEqual(may_access(program, (17, "call")), [("x", "read")])

    def test_no_item(self):
        program = main("x = y + 7; &x; f(1);", HEAD + "fun f(int n) { } ")
        for item in ((0, "write"), (0, "call"), (1, "step"), (2, "write"), (3, "call"), (4, "step"), (6, "step"),
                     (6, "write"), (99, "step"), (-1, "step"), (7, "step"), (0, "read"), (0, "")):
            with self.subTest(item=item):
                with self.assertRaises(NoItem) as caught:
                    may_access(program, item)
                self.assertEqual(caught.exception.item, item)
        with self.assertRaises(NoItem) as caught:
            may_access(listed(program), [0, "write"])
        self.assertEqual(caught.exception.item, (0, "write"))

    def test_taken_literally(self):
        for seed in range(25):
            program = (Maker if seed % 2 else Clasher)(seed).program(functions=3, statements=3, level=3)
            naive = Naive(program)
            for node in range(node_many(program)):
                for kind in ("step", "write", "call"):
                    try:
                        found = may_access(program, (node, kind))
                    except NoItem:
                        continue
                    self.assertEqual(found, sorted(naive_access(program, naive, (node, kind))))


class Refused(unittest.TestCase):
    def test_variables(self):
        self.assertEqual(names("x + x; x = x + 1; x += x; k + k;"), [])
        self.assertEqual(names("x + (x = 1);"), [(0, 2, "x")])
        self.assertEqual(names("k + (k = 1);"), [(0, 2, "k")])
        self.assertEqual(names("int t = 1; t++ + t;"), [(2, 3, "t")])
        self.assertEqual(names("r == (r = &y);"), [(0, 2, "r")])
        self.assertEqual(refused(main("x++ + x++;")), [((0, "step"), (1, "write"), "x"), ((0, "write"), (1, "step"), "x"),
                                                      ((0, "write"), (1, "write"), "x")])
        self.assertEqual(refused(main("x += (x = 1);")), [((1, "write"), (2, "step"), "x"), ((1, "write"), (2, "write"), "x")])

    def test_the_output(self):
        self.assertEqual(names("print(1) + print(2); print(print(1)); print(1) +# print(2);"), [(1, 3, "")])

    def test_written_numbers_as_indices(self):
        self.assertEqual(names("a[0] = a[1]++; a[0] + (a[1] = 1); a[2]++ + a[1]++; a[1] + (b[1] = 2);"), [])
        self.assertEqual(names("a[1] + (a[1] = 1);"), [(1, 4, "a")])
        self.assertEqual(names("a[x] + (a[1] = 1);"), [(1, 4, "a")])
        self.assertEqual(names("a[0] + (a[0 + 1] = 1);"), [(1, 6, "a")])
        self.assertEqual(names("a[0] + (a[-1] = 1);"), [(1, 5, "a")])
        self.assertEqual(names("a[0] + (a[(1)] = 1);"), [])
        self.assertEqual(names("a[7] + (a[8] = 1);"), [])

    def test_references(self):
        self.assertEqual(names("*r + (x = 1);"), [(1, 3, "x")])
        self.assertEqual(names("*r + (y = 1);"), [])
        self.assertEqual(names("*r + (*r = 1);"), [(1, 4, "x")])
        self.assertEqual(names("a[0] + (*&a[1] = 1);"), [(1, 5, "a")])
        self.assertEqual(names("(*&a[0] = 2) + (*&a[1] = 1);"), [(3, 7, "a")])
        self.assertEqual(names("&a[1] == &a[1]; &a[x] == (a[0] = 1, &a[2]);"), [])
        self.assertEqual(names("&a[x++] == &a[x];"), [(0, 2, "x")])

    def test_the_least_name(self):
        text = HEAD + "fun f() { y = 1; x = 1; a[0] = 1; } fun g() { x; a[1]; y; } fun main() { f() + g(); }"
        self.assertEqual([told[2] for told in refused(read(text))], ["a"])
        text = text.replace("y; }", "y; print(1); }").replace("y = 1;", "y = print(2);")
        self.assertEqual([told[2] for told in refused(read(text))], [""])

    def test_calls(self):
        head = HEAD + "fun f() { x = 1; } fun g(int n) { n = n + 1; return n; } fun h() { return a[1]; } "
        self.assertEqual(names("x + f();", head), [(9, 10, "x")])
        self.assertEqual(names("x += f(); x = f(); y + f(); g(1) + g(2); f() +# f();", head), [])
        self.assertEqual(names("f() + f();", head), [(9, 10, "x")])
        self.assertEqual(names("h() + (a[0] = 1);", head), [(9, 12, "a")])

    def test_order(self):
        self.assertEqual(names("x++ && x++; x++ || x++; x++ ? x++ : (x = 2); x++, x; x =# x++; a[x++] +=# x;"), [])
        self.assertEqual(names("x = k ? x++ : (x = 2);"), [(1, 5, "x"), (3, 5, "x")])

    def test_all_functions_ascending(self):
        text = HEAD + "fun f() { x++ + x; } fun g() { y = y++; } fun main() { if (x++ + x) { } while (y++ + y) { } }"
        program = read(text)
        self.assertEqual([told[2] for told in refused(program)], ["x", "y", "x", "y"])
        self.assertEqual(refused(program), sorted(refused(program)))
        self.assertEqual(first_refused(program), refused(program)[0])
        self.assertFalse(is_let_by(program))

    def test_what_is_never_done(self):
        self.assertEqual(names("if (0) { x = x++; } return 0; 0 && (y = y++);"), [(1, 2, "x"), (5, 6, "y")])

    def test_taken_literally(self):
        many = 0
        for seed in range(100):
            program = (Maker if seed % 3 == 0 else Clasher)(seed).program(1 + seed % 3, statements=3, level=2 + seed % 3)
            found = refused(program)
            many += len(found)
            self.assertEqual(found, naive_refused(program))
            self.assertEqual(first_refused(program), found[0] if found else None)
            self.assertEqual(is_let_by(program), not found)
        self.assertGreater(many, 300)


class RunsOfCheckedPrograms(unittest.TestCase):
    def test_a_program_that_is_let_by_meets_no_conflict(self):
        let_by = 0
        for seed in range(900):
            chance = random.Random(seed)
            maker = Clasher(seed, marks=0.6) if seed % 3 else Maker(seed)
            program = maker.program(chance.randint(1, 3), 3, 3)
            if not is_let_by(program):
                continue
            let_by += 1
            for inputs in ([0, 0], [3, -1]):
                for _ in range(4):
                    choices = [chance.choice((0, 1, 2, 3)) for _ in range(60)]
                    self.assertEqual(conflicts(program, inputs, choices, most=150), [])
        self.assertGreater(let_by, 150)

    def test_items_keep_to_what_they_may_access(self):
        for seed in range(150):
            chance = random.Random(seed)
            program = (Maker if seed % 2 else Clasher)(seed).program(2, 3, 3)
            choices = [chance.choice((0, 1, 2)) for _ in range(40)]
            done = turns(program, [3, -1], choices, most=100)
            for at, place, sort in accesses(program, [3, -1], choices, most=100):
                name = "" if place[0] == "output" else place[2] if place[0] == "local" else place[1]
                self.assertIn((name, sort), may_access(program, done[at][1:]))

    def test_refused_pairs_of_simple_programs_are_their_conflicts(self):
        compared = 0
        for seed in range(300):
            program = Simple(seed).program(1, 3, 3)
            if run(program, [1, 0])[0][0] != "ended":
                continue
            told = sorted({tuple(sorted((one[0], other[0]))) for one, other, _ in refused(program)})
            chance = random.Random(seed)
            for choices in ([], [chance.randrange(4) for _ in range(60)]):
                met = sorted({tuple(sorted((one[0][0], other[0][0]))) for _, one, other in conflicts(program, [1, 0], choices)})
                compared += len(met)
                self.assertEqual(met, told)
            self.assertEqual(is_calm(program, [1, 0]), is_let_by(program))
        self.assertGreater(compared, 200)


class Simple(Clasher):
    """Makes programs of main alone, without branches, arrays, references, / and ~."""

    def __init__(self, seed):
        super().__init__(seed, branches=False, calls=False)

    def statement(self, level, nests):
        return ("do", self.operation(level))

    def single(self, level):
        return (self.chance.choice(("neg", "not", "print")), self.int(level), self.mark())

    def any(self, level):
        return self.int(level)

    def place(self, level):
        return ("var", self.chance.choice(self.ints))


class Arguments(unittest.TestCase):
    def test_lists_tuples_and_names(self):
        for program in (AIMED, TWICE, DEMO, TWO):
            kept = listed(program)
            self.assertEqual(refused(program=kept), refused(program))
            self.assertEqual(first_refused(program=kept), first_refused(program))
            self.assertEqual(is_let_by(program=kept), is_let_by(program))
            self.assertTrue(only_tuples(tuple(refused(kept))))
            self.assertEqual(kept, listed(program))
        self.assertEqual(may_access(program=listed(AIMED), item=[7, "write"]), may_access(AIMED, (7, "write")))
        self.assertEqual(may_access(AIMED, (1, "write")), [("r", "write")])


if __name__ == "__main__":
    unittest.main()
