"""[16]: marks that mend."""

import itertools
import random
import unittest

from openorder.checker import is_let_by, refused
from openorder.errors import NoMark, NoPair, TooMany
from openorder.kinds import fault_of
from openorder.machine import run
from openorder.mending import first_mend, least_many, least_mends, marks_needed, mended, way
from openorder.nodes import node_at, node_many, parts_at
from openorder.reader import program_text, read
from openorder.sequence import unsequenced
from tests.maker import Clasher, Maker
from tests.programs import ALL, CALM, CLASH, TWICE, listed, only_tuples

INNER = read("int x = 0; fun main() { x = (x = 1) + 0; }")
HEAD = "int x = 0; int y = 0; int a[3]; ref r = &x; "


def main(body, head=HEAD):
    program = read(head + "fun main(int k) { " + body + " }")
    assert fault_of(program) is None, fault_of(program)
    return program


def ways(program):
    """Return the ways of the refused pairs."""
    return [way(program, one, other) for one, other, _ in refused(program)]


def declared(program):
    """Return the last nodes of declarations, by the places of their texts."""
    found = []
    many = 0

    def go(body):
        nonlocal many
        for statement in body:
            expression = statement[3] if statement[0] == "let" else statement[1]
            many += node_many(((), (("main", (), (("do", expression),)),)))
            if statement[0] == "let":
                found.append(many)
                many += 1
            for inner in statement[2:] if statement[0] in ("if", "while") else ():
                go(inner)

    for function in program[1]:
        go(function[2])
    return found


def markable(program):
    """Return the nodes that can be marked, taken literally."""
    kinds = ("and", "or", "cond", "comma")
    return [node for node in range(node_many(program)) if parts_at(program, node)
            and node_at(program, node)[0] not in kinds and node not in declared(program)]


def least_by_trying(program, nodes):
    """Return all mends with the fewest nodes among these nodes."""
    for many in range(len(nodes) + 1):
        found = [chosen for chosen in itertools.combinations(nodes, many) if is_let_by(mended(program, chosen))]
        if found:
            return found
    return []


class Examples(unittest.TestCase):
    def test_examples(self):
        self.assertEqual(way(INNER, (1, "write"), (4, "write")), (3, 4))
        with self.assertRaises(NoPair) as caught:
            way(INNER, (4, "write"), (1, "write"))
        self.assertEqual(caught.exception.pair, ((4, "write"), (1, "write")))
        self.assertEqual([marks_needed(INNER), least_many(INNER), least_mends(INNER), first_mend(INNER)],
                         [1, 2, [(3,), (4,)], (3,)])
        self.assertEqual([is_let_by(mended(INNER, [3])), is_let_by(mended(INNER, []))], [True, False])
        with self.assertRaises(NoMark) as caught:
            mended(INNER, [0])
        self.assertEqual(caught.exception.node, 0)

    def test_the_other_programs(self):
        self.assertEqual([first_mend(program) for program in ALL], [(8,), (), (3,), (2,), (), (7,), (9, 12)])
        self.assertEqual(least_mends(TWICE), [(9, 12)])
        self.assertEqual([marks_needed(CALM), least_many(CALM), least_mends(CALM), first_mend(CALM)], [0, 1, [()], ()])


class Way(unittest.TestCase):
    def test_in_two_parts_of_a_node(self):
        self.assertEqual(ways(main("x + (x = 1);")), [(3,)])
        self.assertEqual(ways(main("-x * -(y + (x = 1));")), [(7,)])
        self.assertEqual(ways(main("y + (x + (x = 1));")), [(4,)])
        self.assertEqual(ways(main("a[x++] = x;")), [(2,)])
        self.assertEqual(ways(main("a[x++] += x;")), [(2,)])
        text = HEAD + "fun f(int n, int m, int o) { } fun main() { f(x++, 1, x); }"
        self.assertEqual(ways(read(text)), [(3,)])
        self.assertEqual(ways(main("x && (x++ + x);")), [(3,)])
        self.assertEqual(ways(main("(x = 1, y) + (k ? x : 2);")), [(8,)])

    def test_a_write_and_the_node_above(self):
        self.assertEqual(ways(main("x = x++;")), [(1,)])
        self.assertEqual(ways(main("x = -x++;")), [(1, 2)])
        self.assertEqual(ways(main("x = -(y + !(x = 1));")), [(3, 4, 5, 6)])
        self.assertEqual(ways(main("x = k ? x++ : y;")), [(4,)])
        self.assertEqual(ways(main("x = (y, -x++);")), [(2, 4)])
        self.assertEqual(ways(main("x = (y = x++);")), [(1, 2)])
        self.assertEqual(ways(main("a[x] = (a[0] = 2);")), [(4,)])
        self.assertEqual(ways(main("a[a[1]++]++;")), [(2,), (2,)])
        self.assertEqual(ways(main("x += (x = 1);")), [(2,), (2,)])
        self.assertEqual(ways(main("print(-print(1));")), [])
        self.assertEqual(ways(main("*(x++, r) = 2; *(y, r) = -x++;")), [(9, 10)])

    def test_the_last_node_of_a_declaration(self):
        self.assertEqual(ways(main("int t = x + (x = 1);")), [(3,)])
        self.assertEqual(ways(main("int t = (x = x++);")), [(1,)])

    def test_no_pair(self):
        program = main("x++ + x++; x++;")
        for pair in (((0, "step"), (1, "step")), ((0, "write"), (0, "step")), ((1, "write"), (0, "write")),
                     ((0, "write"), (0, "write")), ((0, "write"), (3, "write")), ((0, "write"), (99, "write")),
                     ((-1, "write"), (1, "write")), ((0, "call"), (1, "write")), ((0, "write"), (2, "step"))):
            with self.subTest(pair=pair):
                with self.assertRaises(NoPair) as caught:
                    way(program, *pair)
                self.assertEqual(caught.exception.pair, pair)
        with self.assertRaises(NoPair) as caught:
            way(listed(program), [1, "write"], [0, "write"])
        self.assertEqual(caught.exception.pair, ((1, "write"), (0, "write")))

    def test_a_mark_there_orders_the_pair(self):
        for seed in range(150):
            program = Clasher(seed).program(1 + seed % 2, statements=2, level=3)
            nodes = markable(program)
            for one, other, _ in refused(program)[:3]:
                expected = tuple(node for node in nodes
                                 if (one, other) not in [pair[:2] for pair in refused(mended(program, [node]))])
                self.assertEqual(way(program, one, other), expected)


class Nester(Clasher):
    """Makes programs with writes in nodes that write the same places: their ways are long."""

    def int(self, level):
        if level <= 0:
            return ("inc", ("var", self.chance.choice("xy")), 0)
        roll = self.chance.randrange(7)
        if roll < 2:
            return ("neg", self.int(level - 1), self.mark())
        if roll == 2:
            return ("op", "+", self.int(level - 1), ("num", 1), self.mark())
        if roll == 3:
            return ("cond", ("num", 1), self.int(level - 1), self.int(level - 2))
        if roll == 4:
            return ("op", "+", self.int(level - 1), self.int(level - 2), self.mark())
        return ("set", ("var", self.chance.choice("xy")), self.int(level - 1), self.mark())

    def operation(self, level):
        return self.int(level)


class Mends(unittest.TestCase):
    def test_small_programs(self):
        program = main("x = x++; y = -(y = 1); x + (x = 2);")
        self.assertEqual([marks_needed(program), least_many(program), least_mends(program), first_mend(program)],
                         [3, 2, [(1, 4, 9), (1, 5, 9)], (1, 4, 9)])
        program = main("x = -(y = (x = 1) + 0 * (y = 2));")
        self.assertEqual([marks_needed(program), least_mends(program)], [1, [(6,), (7,)]])
        self.assertEqual(least_mends(program), least_by_trying(program, markable(program)))

    def test_one_mark_for_several_pairs(self):
        self.assertEqual(least_mends(main("x++ + x++;")), [(2,)])
        self.assertEqual(least_mends(main("(x = 1) + (y = 2) * (x + y);")), [(7, 8)])
        self.assertEqual(least_mends(main("x = -(x = -(x = 1));")), [(2, 4), (2, 5), (3, 4), (3, 5)])

    def test_several_functions(self):
        text = HEAD + ("fun f() { x = -x++; } fun g() { } fun h(int n) { n = n++; } "
                       "fun main() { f() + f(); print(1) + print(2); }")
        program = read(text)
        self.assertEqual([marks_needed(program), least_many(program), first_mend(program)], [4, 2, (1, 4, 7, 12)])
        self.assertEqual(least_mends(program), [(1, 4, 7, 12), (2, 4, 7, 12)])

    def test_nodes_that_are_marked_already(self):
        program = main("x = -(x = 1) +# 0; y = x++ + x;")
        self.assertEqual([marks_needed(program), first_mend(program)], [1, (8,)])
        self.assertEqual(least_mends(main("x =# x++;")), [()])
        self.assertEqual(least_mends(mended(INNER, [3])), [()])

    def test_many_refused_pairs(self):
        body = "".join(f"x = x++ + {n}; " for n in range(50))
        program = main(body)
        self.assertEqual([marks_needed(program), least_many(program)], [50, 2 ** 50])
        self.assertEqual(first_mend(program), tuple(2 + 4 * n for n in range(50)))
        self.assertTrue(is_let_by(mended(program, first_mend(program))))
        wide = main("x++ + (x++ + (x++ + (x++ + (x++ + (x++ + (x++ + (x++ + (x++ + (x++ + x++)))))))));")
        self.assertGreater(len(refused(wide)), 150)
        self.assertEqual([marks_needed(wide), least_many(wide), first_mend(wide)], [10, 1, tuple(range(11, 21))])

    def test_just_so_many(self):
        three, four, five = "x = -(x = 1) + 0; ", "x = --(x = 1) + 0; ", "x = ---(x = 1) + 0; "
        program = main(three + four + five + five)
        self.assertEqual(least_many(program), 300)
        found = least_mends(program)
        self.assertEqual((len(found), found, found[0]), (300, sorted(set(found)), first_mend(program)))
        self.assertTrue(all(len(mend) == 4 and is_let_by(mended(program, mend)) for mend in found[::30]))
        program = main("".join("x = " + "-" * many + "x++; " for many in (3, 6, 10)))
        self.assertEqual(least_many(program), 4 * 7 * 11)
        with self.assertRaises(TooMany) as caught:
            least_mends(program)
        self.assertEqual(caught.exception.many, 308)
        self.assertEqual(first_mend(program), (1, 6, 14))
        program = main("".join("x = " + "-" * many + "x++; " for many in (6, 42)))
        with self.assertRaises(TooMany) as caught:
            least_mends(program)
        self.assertEqual(caught.exception.many, 301)
        program = main(three * 3 + four * 7)
        self.assertEqual(least_many(program), 3 ** 3 * 4 ** 7)
        with self.assertRaises(TooMany) as caught:
            least_mends(program)
        self.assertEqual(caught.exception.many, 3 ** 3 * 4 ** 7)
        self.assertEqual(len(first_mend(program)), 10)

    def test_against_all_sets_of_nodes(self):
        compared = several = 0
        for seed in range(300):
            maker = (Maker, Clasher, Nester, Nester)[seed % 4]
            program = maker(seed).program(1 + seed % 2, statements=2, level=3 + seed % 5 // 2)
            told = ways(program)
            nodes = sorted(set().union(*told)) if told else []
            if not told or len(nodes) > 7:
                continue
            expected = least_by_trying(program, nodes)
            compared += 1
            several += len(expected) > 1
            self.assertEqual(least_mends(program), expected)
            self.assertEqual([marks_needed(program), least_many(program), first_mend(program)],
                             [len(expected[0]), len(expected), expected[0]])
        self.assertGreater(compared, 100)
        self.assertGreater(several, 10)

    def test_no_other_nodes_are_needed(self):
        for seed in range(60):
            program = Clasher(seed).program(1, statements=1, level=3)
            if len(markable(program)) < 8:
                self.assertEqual(least_mends(program), least_by_trying(program, markable(program)))


class Mended(unittest.TestCase):
    def test_nodes_in_any_order_and_repeated(self):
        program = main("x = x++ + (y = y + 1);")
        self.assertEqual(mended(program, [6, 3, 6]), mended(program, (3, 6)))
        self.assertEqual(mended(program, [3]), main("x = x++ + (y = y +# 1);"))
        self.assertEqual(mended(program, [6, 3, 4, 5]), main("x =# x++ +# (y =# y +# 1);"))
        self.assertEqual(mended(mended(program, [5]), [5]), mended(program, [5]))
        self.assertEqual(mended(program, []), program)

    def test_every_kind_of_node(self):
        body = ("a[x] = &a[y] == r; *r += -x * !y; a[x]++; (*r)++; print(x); if (x < 2) { while (-x) { return -y; } } "
                "else { int t = -x; } f(x); 1 && -x; x ? -x : (2, !y); x++; x = 1; 7;")
        head = HEAD + "fun f(int n) { return -n; } "
        program = main(body, head)
        nodes = markable(program)
        full = mended(program, nodes)
        text = program_text(full)
        self.assertEqual(text.count("#"), len(nodes))
        self.assertEqual(read(text), full)
        self.assertEqual(text.replace("#", ""), program_text(program))
        for node in range(-1, node_many(program) + 2):
            if node not in nodes:
                with self.assertRaises(NoMark) as caught:
                    mended(program, nodes + [node])
                self.assertEqual(caught.exception.node, node)
            else:
                self.assertEqual(node_at(mended(program, [node]), node)[-1], 1)

    def test_no_mark(self):
        program = main("int t = x + 1; x && y; x++; f();", HEAD + "fun f() { } ")
        for node in (0, 1, 3, 4, 6, 7, 8, 9, 10, -1, 1000):
            with self.assertRaises(NoMark) as caught:
                mended(program, [2, node])
            self.assertEqual(caught.exception.node, node)
        with self.assertRaises(NoMark) as caught:
            mended(program, [9, 2, -4, 3, 99, -4])
        self.assertEqual(caught.exception.node, -4)

    def test_the_run_from_left_to_right_is_kept(self):
        compared = 0
        for seed in range(250):
            chance = random.Random(seed)
            program = (Maker if seed % 2 else Clasher)(seed).program(chance.randint(1, 3), statements=3, level=3)
            result = run(program, [3, -1])
            if result[0][0] != "ended":
                continue
            nodes = set(first_mend(program)) | {node for node in markable(program) if chance.random() < 0.2}
            form = mended(program, sorted(nodes))
            self.assertTrue(is_let_by(form))
            compared += 1
            for _ in range(4):
                choices = [chance.choice((0, 1, 2, 3)) for _ in range(80)]
                self.assertEqual(run(form, [3, -1], choices), result)
        self.assertGreater(compared, 100)


class Arguments(unittest.TestCase):
    def test_lists_tuples_and_names(self):
        for program in (INNER, TWICE, CLASH):
            kept = listed(program)
            for asked in (marks_needed, least_many, least_mends, first_mend):
                self.assertEqual(asked(program=kept), asked(program))
            nodes = [first_mend(program)[0]] * 2
            self.assertEqual(mended(program=kept, nodes=nodes), mended(program, tuple(nodes)))
            self.assertTrue(only_tuples(mended(kept, nodes)))
            self.assertTrue(all(isinstance(mend, tuple) for mend in least_mends(kept)))
            self.assertIsInstance(first_mend(kept), tuple)
            self.assertEqual((kept, len(nodes)), (listed(program), 2))
        self.assertEqual(way(program=listed(INNER), one=[1, "write"], other=(4, "write")), (3, 4))
        self.assertEqual(len(unsequenced(node_at(mended(INNER, [3, 4]), 4))), 0)


if __name__ == "__main__":
    unittest.main()
