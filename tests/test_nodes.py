"""[4] and [7]: the nodes of a program."""

import unittest

from openorder.errors import NoNode
from openorder.nodes import node_at, node_many, parts_at, top_at
from openorder.reader import read
from tests.programs import DEMO, expression_of, listed, only_tuples


def nodes_of(text):
    """Return (word, parts) of each node of a main with this body."""
    program = read("fun main() { " + text + " }")
    return [(node_at(program, node)[0], parts_at(program, node)) for node in range(node_many(program))]


def tops_of(text):
    program = read(text)
    return [top_at(program, node) for node in range(node_many(program))]


class Nodes(unittest.TestCase):
    def test_example(self):
        self.assertEqual([node_many(DEMO), node_at(DEMO, 7), parts_at(DEMO, 8), top_at(DEMO, 0)],
                         [9, ("inc", ("var", "x"), 0), (6, 7), 3])

    def test_every_expression(self):
        for text, told in (
                ("7", [("num", ())]), ("x", [("var", ())]), ("&x", [("ref", ())]),
                ("a[x]", [("var", ()), ("item", (0,))]), ("&a[1]", [("num", ()), ("refitem", (0,))]),
                ("*x", [("var", ()), ("at", (0,))]), ("-x", [("var", ()), ("neg", (0,))]),
                ("!1", [("num", ()), ("not", (0,))]), ("print(1)", [("num", ()), ("print", (0,))]),
                ("x + 1", [("var", ()), ("num", ()), ("op", (0, 1))]),
                ("x && 1", [("var", ()), ("num", ()), ("and", (0, 1))]),
                ("x || 1", [("var", ()), ("num", ()), ("or", (0, 1))]),
                ("x, 1", [("var", ()), ("num", ()), ("comma", (0, 1))]),
                ("x ? 1 : &y", [("var", ()), ("num", ()), ("ref", ()), ("cond", (0, 1, 2))]),
                ("x = 1", [("num", ()), ("set", (0,))]), ("x += 1", [("num", ()), ("add", (0,))]),
                ("x++", [("inc", ())]), ("a[1]++", [("num", ()), ("inc", (0,))]),
                ("(*x)++", [("var", ()), ("inc", (0,))]),
                ("a[1] = x", [("num", ()), ("var", ()), ("set", (0, 1))]),
                ("*x += 1", [("var", ()), ("num", ()), ("add", (0, 1))]),
                ("a[x + 1] = 2", [("var", ()), ("num", ()), ("op", (0, 1)), ("num", ()), ("set", (2, 3))]),
                ("f()", [("call", ())]),
                ("f(1, x++, 2 + 3)", [("num", ()), ("inc", ()), ("num", ()), ("num", ()), ("op", (2, 3)),
                                      ("call", (0, 1, 4))]),
                ("-(-x)", [("var", ()), ("neg", (0,)), ("neg", (1,))])):
            with self.subTest(text=text):
                self.assertEqual(nodes_of(text + ";"), told)

    def test_the_expressions_themselves(self):
        program = read("int a[2]; fun main(int k) { a[k +# 1] =# -k; }")
        self.assertEqual([node_at(program, node) for node in range(6)], [
            ("var", "k"), ("num", 1), ("op", "+", ("var", "k"), ("num", 1), 1), ("var", "k"),
            ("neg", ("var", "k"), 0), program[1][0][2][0][1]])

    def test_statements(self):
        text = ("fun f(int n) { n; return n + 1; } fun main() { 1, 2; if (3) { 4; -5; } else { 6; } "
                "while (7 < 8) { 9; if (10) { } } return 11; }")
        self.assertEqual(tops_of(text), [0, 3, 3, 3, 6, 6, 6, 7, 8, 10, 10, 11, 14, 14, 14, 15, 16, 17])
        program = read(text)
        self.assertEqual(node_at(program, 11), ("num", 6))
        self.assertEqual(node_at(program, 17), ("num", 11))

    def test_declarations(self):
        program = read("int x = 1; fun main(int k) { k; int t = k + 1; ref r = &x; }")
        self.assertEqual([node_at(program, node) for node in range(node_many(program))], [
            ("var", "k"), ("var", "k"), ("num", 1), ("op", "+", ("var", "k"), ("num", 1), 0),
            ("set", ("var", "t"), ("op", "+", ("var", "k"), ("num", 1), 0), 0),
            ("ref", "x"), ("set", ("var", "r"), ("ref", "x"), 0)])
        self.assertEqual([parts_at(program, 4), parts_at(program, 6)], [(3,), (5,)])
        self.assertEqual([top_at(program, node) for node in range(7)], [0, 4, 4, 4, 4, 6, 6])

    def test_no_nodes(self):
        self.assertEqual(node_many(read("fun f() { } fun main() { if (1) { } }")), 1)
        self.assertEqual(node_many(read("int x = 1; fun main() { }")), 0)

    def test_no_node(self):
        for asked in (node_at, parts_at, top_at):
            for node in (-1, -9, 9, 10, 1000):
                with self.assertRaises(NoNode) as caught:
                    asked(DEMO, node)
                self.assertEqual(caught.exception.node, node)
            with self.assertRaises(NoNode):
                asked(read("fun main() { }"), 0)

    def test_lists_and_names(self):
        self.assertEqual(node_many(program=listed(DEMO)), 9)
        self.assertEqual(node_at(program=listed(DEMO), node=8), node_at(DEMO, 8))
        self.assertTrue(only_tuples(node_at(listed(DEMO), 8)))
        self.assertEqual(parts_at(program=listed(DEMO), node=8), (6, 7))
        self.assertEqual(top_at(program=listed(DEMO), node=5), 8)
        self.assertEqual(expression_of("f(k) + x++"), node_at(DEMO, 8))


if __name__ == "__main__":
    unittest.main()
