"""[6]: names and kinds, and the first fault of a program."""

import unittest

from openorder.kinds import fault_of
from openorder.reader import read
from tests.maker import Maker
from tests.programs import ALL, DEMO, listed

HEAD = ("int x = 1; int a[3]; ref p = &x; fun f(int n, ref r) { return n; } fun g() { } "
        "fun main(int k) { int t = 1; ref s = &x; ")
NODES_IN_FRONT = 5


def fault(text):
    return fault_of(read(text))


def fault_in(text):
    """Return the fault of a body of main, its nodes numbered from 0."""
    found = fault_of(read(HEAD + text + " }"))
    if found is None or found[0] in ("twice", "main"):
        return found
    return (found[0], found[1] - NODES_IN_FRONT)


class Faults(unittest.TestCase):
    def check(self, texts, told):
        for text in texts:
            with self.subTest(text=text):
                self.assertEqual(fault_in(text), told)

    def test_examples(self):
        self.assertIsNone(fault_of(DEMO))
        self.assertEqual(fault("fun main() { return y; }"), ("unknown", 0))
        self.assertEqual(fault("int x = 1; fun f() { return *x; }"), ("main", "f"))

    def test_sound_programs(self):
        for program in ALL:
            self.assertIsNone(fault_of(program))
            self.assertIsNone(fault_of(listed(program)))
        for seed in range(200):
            self.assertIsNone(fault_of(Maker(seed).program(functions=3, statements=3, level=4)))

    def test_sound_bodies(self):
        self.check(("", "p = &x;", "p = &a[1];", "s = p;", "*p = 1;", "(*s)++;", "*&x += t;", "p == s;",
                    "1 == t;", "t = a[x];", "p = k ? &x : s;", "p = (1, &x);", "*(p = s);", "&x, 1;", "1, &x;",
                    "f(1, p);", "f((p, 1), (1, p));", "return f(k, &a[0]) + g();", "p = s = &x;", "print(g());",
                    "while (k == 1) { }", "while (1, 2) { }", "while (-1) { }", "if (1) { }", "return 1;",
                    "ref u = p; int v = t; u = &x; v = 2;", "k ? p : s;", "&x;", "a[0]++; x++; k++;"), None)

    def test_twice(self):
        for text, name in (("int x = 1; int x = 2; fun main() { }", "x"),
                           ("int x = 1; int y[3]; ref x = &x; fun main() { }", "x"),
                           ("fun f() { } fun f() { } fun main() { }", "f"),
                           ("int f = 1; fun f() { } fun main() { }", "f"),
                           ("int main = 1; fun main() { }", "main"),
                           ("fun main() { } fun main() { }", "main"),
                           ("fun main(int k, int k) { }", "k"),
                           ("int x = 1; fun main(int x) { }", "x"),
                           ("fun f(int g) { } fun g() { } fun main() { }", "g"),
                           ("fun f(int f) { } fun main() { }", "f"),
                           ("fun f(int main) { } fun main() { }", "main"),
                           ("fun f(int main) { } fun g() { }", "main"),
                           ("fun f() { int g = 1; } fun g() { } fun main() { }", "g"),
                           ("fun main() { ref main = 1; }", "main"),
                           ("fun main(int k) { int k = 1; }", "k"),
                           ("fun main() { if (1) { int t = 1; } int t = 2; }", "t"),
                           ("fun main() { int t = 1; while (t) { int t = 2; } }", "t")):
            with self.subTest(text=text):
                self.assertEqual(fault(text), ("twice", name))
        self.assertIsNone(fault("fun f(int k) { int t = k; } fun main(int k) { int t = k; }"))

    def test_size(self):
        self.assertEqual(fault("int a[0]; fun main() { }"), ("size", "a"))
        self.assertEqual(fault("int a[21]; fun main() { }"), ("size", "a"))
        self.assertIsNone(fault("int a[1]; int b[20]; fun main() { }"))

    def test_target(self):
        for entries in ("ref p = &x; int x = 1;", "ref p = &p;", "ref p = &q;", "int x = 1; ref p = &x[1];",
                        "int x[2]; ref p = &x[2];", "int x = 1; ref q = &x; ref p = &q;", "ref p = &f;",
                        "ref p = &a[0]; int a[1];"):
            with self.subTest(entries=entries):
                self.assertEqual(fault(entries + " fun f() { } fun main() { }"), ("target", "p"))
        self.assertEqual(fault_of(((("int", "x", 1), ("ref", "p", "x", -1)), (("main", (), ()),))), ("target", "p"))
        self.assertIsNone(fault("int x = 1; int a[2]; ref p = &x; ref q = &a[1]; ref r = &a; fun main() { }"))

    def test_main(self):
        self.assertEqual(fault("fun f() { }"), ("main", "f"))
        self.assertEqual(fault("fun main() { } fun f() { }"), ("main", "f"))
        self.assertEqual(fault("fun main(int k, ref r) { }"), ("main", "main"))
        self.assertIsNone(fault("fun f(ref r) { } fun main(int k, int m) { }"))

    def test_unknown(self):
        for text, node in (("y;", 0), ("&y;", 0), ("y[0];", 1), ("&y[0];", 1), ("y = 1;", 1), ("y += 1;", 1),
                           ("y++;", 0), ("y[0] = 1;", 2), ("y[0]++;", 1), ("y();", 0), ("y(1, 2);", 2),
                           ("main(1);", 1), ("main;", 0), ("&main;", 0), ("main = 1;", 1), ("*y;", 0), ("int u = u;", 0),
                           ("int u = 1 + v;", 1), ("x + (y + z);", 1), ("n;", 0), ("r;", 0),
                           ("if (k) { int u = 1; } u;", 3), ("if (k) { int u = 1; } else { u; }", 3),
                           ("while (k) { int u = 1; } u;", 3), ("u; int u = 1;", 0)):
            with self.subTest(text=text):
                self.assertEqual(fault_in(text), ("unknown", node))

    def test_the_scope_of_a_local(self):
        self.check(("int u = 1; u; if (u) { u; while (u) { u++; int v = u; v; } u; } u;",
                    "if (k) { int u = 1; u; } if (k) { int v = 1; v; }",
                    "if (k) { ref u = p; *u; } else { ref v = p; *v; }"), None)
        self.assertEqual(fault("fun f(int n) { int u = 1; } fun main() { return n; }"), ("unknown", 2))
        self.assertEqual(fault("fun f(int n) { int u = 1; } fun main() { return u; }"), ("unknown", 2))

    def test_functions_are_known_everywhere(self):
        self.assertIsNone(fault("fun f() { g(); f(); } fun g() { f(); h(1); } fun h(int n) { } fun main() { h(2); }"))
        self.assertEqual(fault("fun f() { g(1); } fun g() { } fun g(int n) { } fun main() { }"), ("many", 1))
        self.assertEqual(fault("fun f() { g(); } fun g() { } fun g(int n) { } fun main() { }"), ("twice", "g"))
        self.assertEqual(fault("fun main() { 1; } fun f() { main(); } fun g() { }"), ("unknown", 1))

    def test_many(self):
        self.check(("g(1);", "g#(p);"), ("many", 1))
        self.check(("f(1, p, 2);", "f(1, 2, p);"), ("many", 3))
        self.check(("f();",), ("many", 0))
        self.check(("f(1);", "f(p);"), ("many", 1))

    def test_kinds_of_names(self):
        self.check(("a;", "f;", "g;", "a++;", "p++;", "s++;", "f++;", "&p;", "&a;", "&t;", "&k;", "&s;", "&f;",
                    "x();", "a();", "t();"), ("kind", 0))
        self.check(("a = 1;", "f = 1;", "p += 1;", "a += 1;", "x[0];", "p[0];", "t[0];", "f[0];", "&x[0];",
                    "&t[0];", "x[0]++;", "x(1);", "k(p);"), ("kind", 1))
        self.check(("x[0] = 1;", "x[0] += 1;"), ("kind", 2))

    def test_kinds_of_parts(self):
        self.check(("-p;", "!p;", "print(p);", "*x;", "*1;", "a[p];", "&a[&x];", "a[p]++;", "(*x)++;", "x = p;",
                    "p = x;", "p = 1;", "x += p;", "s = k;"), ("kind", 1))
        self.check(("p + 1;", "1 + p;", "p < s;", "p == 1;", "x == p;", "p && 1;", "1 && p;", "p || 1;", "1 || p;",
                    "a[p] = 1;", "a[1] = p;", "a[1] += p;", "a[p] += 1;", "*x = 1;", "*p = s;", "*x += 1;",
                    "*p += s;", "f(p, p);", "f(1, 1);"), ("kind", 2))
        self.check(("p ? 1 : 1;", "1 ? p : 1;", "1 ? 1 : p;"), ("kind", 3))
        self.check(("-(1 ? p : s);",), ("kind", 4))
        self.check(("-(1, p);",), ("kind", 3))
        self.check(("x = p = &x;",), ("kind", 2))

    def test_conditions_and_what_is_returned(self):
        self.check(("if (p) { }", "while (s) { }", "return p;", "while (1) { }", "while ((7)) { y; }", "while (0) { }"),
                   ("kind", 0))
        self.check(("if (1, p) { }", "return 1, p;", "while (1, p) { y; }"), ("kind", 2))

    def test_declarations(self):
        self.check(("int u = p;", "ref u = 1;", "ref u = x;", "int u = &x;"), ("kind", 1))
        self.check(("ref u = 1 + 1;",), ("kind", 3))

    def test_the_first_one_is_told(self):
        for text, told in (
                ("int x = 1; int x[0]; int b[0]; fun main() { y; }", ("twice", "x")),
                ("int a[0]; int a[1]; fun main() { }", ("size", "a")),
                ("ref p = &q; int a[0]; fun main() { }", ("target", "p")),
                ("int a[0]; fun f() { y; } fun f() { }", ("size", "a")),
                ("int f = 1; fun f(int k, int k) { y; } fun g() { }", ("twice", "f")),
                ("fun f(int k, int k) { y; } fun g() { }", ("twice", "k")),
                ("fun f() { y; } fun f() { } fun g() { }", ("unknown", 0)),
                ("fun f(ref r, int r) { y; }", ("twice", "r")),
                ("fun f(ref r) { y; }", ("main", "f")),
                ("fun main() { int main = y; }", ("unknown", 0)),
                ("fun main(int k) { ref k = 1; }", ("twice", "k")),
                ("fun main(int k) { ref u = -&k; y; }", ("kind", 0)),
                ("int x = 1; fun main() { x + -&x; y; }", ("kind", 2)),
                ("int x = 1; fun main() { if (&x) { y; } }", ("kind", 0)),
                ("int x = 1; fun main() { if (x) { y; } z; }", ("unknown", 1)),
                ("int x = 1; fun main() { if (x) { 1; } else { y; } z; }", ("unknown", 2)),
                ("int x = 1; fun main() { while (x) { int u = &x; } z; }", ("kind", 2)),
                ("fun main() { } fun main() { y; }", ("twice", "main"))):
            with self.subTest(text=text):
                self.assertEqual(fault(text), told)

    def test_at_the_same_node(self):
        self.check(("y(p);",), ("unknown", 1))
        self.check(("y[p];", "&y[p];", "y = p;", "y += p;"), ("unknown", 1))
        self.check(("y[p] = s;",), ("unknown", 2))
        self.check(("g(p);",), ("many", 1))
        self.check(("f(p, 1, 2);",), ("many", 3))
        self.check(("return y;", "while (y) { }"), ("unknown", 0))

    def test_marks_change_nothing(self):
        self.check(("x =# f#(1, p) +# a[#x];", "*#p; -#x; !#x; print#(x); a[1]++#;"),
                   None)
        self.check(("-#p;", "*#x;", "print#(p);"), ("kind", 1))

    def test_many_functions(self):
        text = "fun f(int n) { n; n; } fun g(int n) { if (n) { n; } else { n; } } fun main() { 1; 2 + y; }"
        self.assertEqual(fault(text), ("unknown", 7))


if __name__ == "__main__":
    unittest.main()
