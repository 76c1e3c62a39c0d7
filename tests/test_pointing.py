"""[14]: where references point, what functions touch."""

import random
import unittest

from openorder.errors import NoFunction
from openorder.kinds import fault_of
from openorder.machine import turns
from openorder.nodes import node_at, node_many
from openorder.pointing import footprint, targets
from openorder.reader import read
from openorder.watcher import accesses
from tests.maker import Clasher, Maker
from tests.naive import Naive
from tests.programs import ALL, CALLS, DEMO, TWICE, listed, only_tuples
from tests.runs import chains_of

AIMED = read("int x = 0; int a[3]; ref r = &x; fun f(ref s) { r = s; } fun main() { f(&a[1]); *r = 2; }")
HEAD = "int x = 0; int y = 0; int z = 0; int a[3]; int b[3]; "


def aims(text, variable, function="main"):
    """Return the targets of a variable."""
    program = read(text)
    assert fault_of(program) is None, fault_of(program)
    return {told[:2]: told[2] for told in targets(program)}[(function, variable)]


def local(value, front="", head=HEAD):
    """Return the targets of a local that is declared with this value."""
    return aims(head + "fun main() { " + front + " ref t = " + value + "; }", "t")


def main_touches(body, head=HEAD + "ref r = &x; "):
    return footprint(read(head + "fun main(int k) { " + body + " }"), "main")


class Examples(unittest.TestCase):
    def test_examples(self):
        self.assertEqual(targets(AIMED), [("", "r", ("a", "x")), ("f", "s", ("a",))])
        self.assertEqual([footprint(AIMED, "f"), footprint(AIMED, "main")], [((), ("r",)), (("r",), ("a", "r", "x"))])

    def test_the_other_programs(self):
        self.assertEqual([targets(program) for program in ALL[:-1]], [[]] * 6)
        self.assertEqual(targets(TWICE), [("", "p", ("x", "y"))])
        self.assertEqual(footprint(TWICE, "main"), (("p", "x", "y"), ("", "p", "y")))
        self.assertEqual([footprint(DEMO, "f"), footprint(CALLS, "main")], [(("x",), ("x",)), ((), ("", "x"))])


class Targets(unittest.TestCase):
    def test_first_targets(self):
        text = "int x = 0; int a[3]; ref r = &x; ref s = &a[2]; ref t = &a[0]; fun main() { }"
        self.assertEqual(targets(read(text)), [("", "r", ("x",)), ("", "s", ("a",)), ("", "t", ("a",))])

    def test_expressions(self):
        self.assertEqual([local("&x"), local("&a[1]"), local("&a[x++]")], [("x",), ("a",), ("a",)])
        self.assertEqual(local("u", "ref u = &y;"), ("y",))
        self.assertEqual(local("x ? &x : &a[0]"), ("a", "x"))
        self.assertEqual(local("0 ? &x : &y"), ("x", "y"))
        self.assertEqual(local("(&x, &y)"), ("y",))
        self.assertEqual(local("u = &z", "ref u = &y;"), ("z",))
        self.assertEqual(aims(HEAD + "fun main() { ref u = &y; ref t = u = &z; }", "u"), ("y", "z"))
        self.assertEqual(local("x ? (&x, y ? u : &b[1]) : (u = &a[0])", "ref u = &y;"), ("a", "b", "y"))

    def test_set_later_and_ahead(self):
        self.assertEqual(aims(HEAD + "fun main() { ref t = &x; t = &y; if (0) { t = &z; } }", "t"), ("x", "y", "z"))
        self.assertEqual(aims(HEAD + "fun main() { return 0; ref t = &x; x + (t == (t = &b[0])); }", "t"), ("b", "x"))
        self.assertEqual(aims(HEAD + "fun main() { while (x) { ref t = &x; print(*(t = &y)); } }", "t"), ("x", "y"))

    def test_arguments(self):
        text = HEAD + "fun f(int n, ref s, ref t) { t = s; } fun main() { f(1, &x, &y); f#(2, x ? &z : &a[0], &b[0]); }"
        self.assertEqual(targets(read(text)), [("f", "s", ("a", "x", "z")), ("f", "t", ("a", "b", "x", "y", "z"))])

    def test_chains_and_circles(self):
        text = HEAD + ("ref r = &x; fun f(ref s) { g(s); s = r; } fun g(ref t) { ref u = t; f(u); } "
                       "fun main() { f(&a[0]); g(&b[0]); }")
        self.assertEqual(targets(read(text)), [("", "r", ("x",)), ("f", "s", ("a", "b", "x")),
                                               ("g", "t", ("a", "b", "x")), ("g", "u", ("a", "b", "x"))])
        text = HEAD + "ref p = &x; ref q = &y; ref r = &z; fun main() { p = q; q = r; r = p; }"
        self.assertEqual([told[2] for told in targets(read(text))], [("x", "y", "z")] * 3)
        text = HEAD + "ref p = &x; ref q = &y; ref r = &z; fun main() { q = p; r = q; }"
        self.assertEqual([told[2] for told in targets(read(text))], [("x",), ("x", "y"), ("x", "y", "z")])

    def test_no_target(self):
        text = "int x = 0; fun f(ref s) { ref t = s; g(t); } fun g(ref u) { f(u); } fun main() { }"
        self.assertEqual(targets(read(text)), [("f", "s", ()), ("f", "t", ()), ("g", "u", ())])
        self.assertEqual(footprint(read("fun f(ref s) { *s = *s + 1; } fun main() { }"), "f"), ((), ()))

    def test_functions_that_nobody_calls(self):
        text = "int x = 0; int y = 0; ref r = &x; fun f() { r = &y; } fun main() { }"
        self.assertEqual(targets(read(text)), [("", "r", ("x", "y"))])
        text = "int x = 0; fun f(ref s) { } fun g() { f(&x); } fun main() { }"
        self.assertEqual(targets(read(text)), [("f", "s", ("x",))])

    def test_one_name_in_two_functions(self):
        text = HEAD + "fun f(ref t) { } fun g(ref t) { } fun main() { ref t = &x; f(&y); g(&z); }"
        self.assertEqual(targets(read(text)), [("f", "t", ("y",)), ("g", "t", ("z",)), ("main", "t", ("x",))])


class Footprints(unittest.TestCase):
    def test_by_itself(self):
        self.assertEqual(main_touches(""), ((), ()))
        self.assertEqual(main_touches("7; &x; &a[1]; k; k = 2; k++; k += 1; int t = 1;"), ((), ()))
        self.assertEqual(main_touches("x; a[1];"), (("a", "x"), ()))
        self.assertEqual(main_touches("x = 1; a[y] = 1;"), (("y",), ("a", "x")))
        self.assertEqual(main_touches("x += 1; a[0] += 1; b[z]++;"), (("a", "b", "x", "z"), ("a", "b", "x")))
        self.assertEqual(main_touches("print(1);"), ((), ("",)))
        self.assertEqual(main_touches("r;"), (("r",), ()))
        self.assertEqual(main_touches("r = &y;"), ((), ("r",)))
        self.assertEqual(main_touches("&a[x];"), (("x",), ()))
        self.assertEqual(main_touches("int t = x; ref u = r;"), (("r", "x"), ()))

    def test_through_references(self):
        self.assertEqual(main_touches("*r;"), (("r", "x"), ()))
        self.assertEqual(main_touches("*r = 1; r = &a[0];"), (("r",), ("a", "r", "x")))
        self.assertEqual(main_touches("*r += 1;"), (("r", "x"), ("x",)))
        self.assertEqual(main_touches("(*r)++;"), (("r", "x"), ("x",)))
        self.assertEqual(main_touches("*&y; *&b[1] = 2;"), (("y",), ("b",)))
        self.assertEqual(main_touches("*(k ? &y : &b[1]) = 2;"), ((), ("b", "y")))
        self.assertEqual(main_touches("*(x, &b[1]) = 2;"), (("x",), ("b",)))
        self.assertEqual(main_touches("*(r = &b[1]) = 2;"), ((), ("b", "r")))

    def test_what_may_never_be_done(self):
        self.assertEqual(main_touches("0 && x++; if (0) { y = 1; } return 0; print(z);"), (("x", "z"), ("", "x", "y")))

    def test_calls(self):
        text = HEAD + ("fun f() { x = y; } fun g() { f(); z = 1; } fun h() { print(a[1]); g(); } fun i() { b[0]; } "
                       "fun main() { g() + 1; if (0) { i(); } }")
        program = read(text)
        self.assertEqual([footprint(program, name) for name in ("f", "g", "h", "i", "main")], [
            (("y",), ("x",)), (("y",), ("x", "z")), (("a", "y"), ("", "x", "z")), (("b",), ()), (("b", "y"), ("x", "z"))])

    def test_calls_in_circles(self):
        text = HEAD + "fun f() { x = 1; g(); } fun g() { y; h(); } fun h() { z++; f(); } fun main() { f(); }"
        for name in ("f", "g", "h", "main"):
            self.assertEqual(footprint(read(text), name), (("y", "z"), ("x", "z")))

    def test_a_function_with_references(self):
        text = HEAD + "fun f(ref s) { *s = 1; } fun g() { f(&x); } fun h() { f(&a[0]); } fun main() { }"
        for name in ("f", "g", "h"):
            self.assertEqual(footprint(read(text), name), ((), ("a", "x")))

    def test_no_function(self):
        for name in ("nobody", "x", "", "r"):
            with self.assertRaises(NoFunction) as caught:
                footprint(AIMED, name)
            self.assertEqual(caught.exception.name, name)


class ByChance(unittest.TestCase):
    def test_taken_literally(self):
        for seed in range(150):
            maker = Maker if seed % 2 else Clasher
            program = maker(seed).program(functions=4, statements=4, level=3)
            naive = Naive(program)
            self.assertEqual(targets(program), sorted((function, name, tuple(sorted(names)))
                                                      for (function, name), names in naive.targets.items()))
            for name in ("f0", "f1", "f2", "main"):
                touched = naive.footprint(name)
                expected = tuple(tuple(sorted(one for one, told in touched if told == sort)) for sort in ("read", "write"))
                self.assertEqual(footprint(program, name), expected)

    def test_runs_keep_to_the_footprints(self):
        for seed in range(150):
            chance = random.Random(seed)
            program = (Maker if seed % 2 else Clasher)(seed).program(functions=3, statements=3, level=3)
            choices = [chance.choice((0, 0, 1, 2)) for _ in range(60)]
            done = turns(program, [3, -1], choices, most=150)
            chains = chains_of(program, done)
            called = {at: [done_node for _, (done_node, _) in chains[at][:-1]] for at in range(len(done))}
            names = {name: footprint(program, name) for name, _, _ in program[1]}
            calls = call_names(program)
            for at, place, sort in accesses(program, [3, -1], choices, most=150):
                if place[0] == "local":
                    continue
                name = "" if place[0] == "output" else place[1]
                for function in ["main"] + [calls[node] for node in called[at]]:
                    self.assertIn(name, names[function][0 if sort == "read" else 1])


def call_names(program):
    """Return a dict of the functions that the nodes which are calls call."""
    found = {}
    for node in range(node_many(program)):
        e = node_at(program, node)
        if e[0] == "call":
            found[node] = e[1]
    return found


class Arguments(unittest.TestCase):
    def test_lists_tuples_and_names(self):
        for program in (AIMED, TWICE, DEMO):
            kept = listed(program)
            self.assertEqual(targets(program=kept), targets(program))
            self.assertEqual(footprint(program=kept, function="main"), footprint(program, "main"))
            self.assertTrue(all(only_tuples(told) for told in targets(kept)))
            self.assertTrue(only_tuples(footprint(kept, "main")))
            self.assertEqual(kept, listed(program))
        self.assertIsNot(targets(AIMED), targets(AIMED))


if __name__ == "__main__":
    unittest.main()
