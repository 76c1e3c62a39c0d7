"""[8] and [9]: runs, turns, choices, ends."""

import unittest

from openorder.errors import NoRun, OtherInputs
from openorder.machine import choices_of, possible, run, turns
from openorder.reader import read
from tests.programs import CALLS, CALM, CLASH, DEMO, PAIR, TWICE, TWO, listed, only_tuples

HEAD = "int x = 5; int y = 0; int a[3]; ref p = &x; fun f(int n) { x = n; return n + 1; } "
IN_F = 5  # the nodes of f


def main(body, head=HEAD):
    return read(head + "fun main(int k) { " + body + " }")


def told(offers):
    """Return turns of main with their nodes counted from main's first one."""
    return [(node - IN_F, kind) for _, node, kind in offers]


def offered(body, choices=()):
    """Return what is possible in a body of main behind the turns of these choices."""
    return told(possible(main(body), [0], choices))


def made(body, choices=()):
    return told(turns(main(body), [0], choices))


def end(body, choices=(), k=0):
    return run(main(body), [k], choices)[0]


def value(expression, k=0, front=""):
    """Return the value of an expression in a run from left to right."""
    found = end(f"{front} return {expression};", (), k)
    return found[1] if found[0] == "ended" else found


def printed(body, choices=(), k=0):
    return run(main(body), [k], choices)[1]


class Examples(unittest.TestCase):
    def test_examples(self):
        self.assertEqual([run(CALM, [7]), run(CLASH, [5]), run(CLASH, [5], [1, 1, 1])],
                         [(("ended", 0), (16,), (9, 7)), (("ended", 0), (6,), (5,)), (("ended", 0), (10,), (5,))])
        some = [(0, 0, "step"), (0, 1, "step"), (0, 3, "step")]
        self.assertEqual([turns(CALM, [7])[2:4], possible(CALM, [7], [0, 0]), choices_of(CALM, [7], some)],
                         [[(0, 1, "write"), (0, 3, "step")], [(0, 1, "write"), (0, 3, "step")], [0, 0, 1]])
        with self.assertRaises(NoRun) as caught:
            choices_of(CALM, [7], [(0, 1, "step")])
        self.assertEqual(caught.exception.at, 0)

    def test_the_other_programs(self):
        self.assertEqual(run(DEMO, [4]), (("ended", 10), (), (6,)))
        self.assertEqual(run(TWO, []), (("ended", 0), (1,), (1,)))
        self.assertEqual(run(PAIR, []), (("ended", 0), (), (1, 0)))
        self.assertEqual(run(CALLS, []), (("ended", 0), (3,), (2,)))
        self.assertEqual(run(CALLS, [], [1]), (("ended", 0), (3,), (1,)))
        self.assertEqual(run(TWICE, [4]), (("ended", 0), (10,), (3, 4, ("x", 0))))
        self.assertEqual(run(TWICE, [0]), (("ended", 0), (0,), (3, 0, ("y", 0))))


def all_runs(program, inputs):
    """Return (RESULT, how many runs have it, their least CHOICES), trying every choice."""
    found = {}
    begun = [[]]
    while begun:
        choices = begun.pop()
        offers = possible(program, inputs, choices)
        begun.extend(choices + [place] for place in range(len(offers)))
        if not offers:
            found.setdefault(run(program, inputs, choices), []).append(
                choices_of(program, inputs, turns(program, inputs, choices)))
    return sorted((result, len(told), min(told)) for result, told in found.items())


class AllRuns(unittest.TestCase):
    """The numbers of runs that the document tells for small programs."""

    def test_all_runs(self):
        self.assertEqual(all_runs(TWO, []), [((("ended", 0), (0,), (1,)), 6, [0, 1]),
                                             ((("ended", 0), (1,), (1,)), 1, [])])
        self.assertEqual(all_runs(PAIR, []), [((("ended", 0), (), (1, 0)), 3, [])])
        self.assertEqual(all_runs(CLASH, [5]), [((("ended", 0), (6,), (5,)), 9, []),
                                                ((("ended", 0), (10,), (5,)), 1, [1, 1, 1])])
        self.assertEqual(all_runs(CALM, [5]), [((("ended", 0), (12,), (7, 5)), 8, [])])
        self.assertEqual(all_runs(CALLS, []), [((("ended", 0), (3,), (1,)), 1, [1]),
                                               ((("ended", 0), (3,), (2,)), 1, [])])

    def test_runs_without_a_conflict_end_alike(self):
        text = ("int x = 1; int y = 2; int a[2]; fun f(int n) { return n++ * 2; } "
                "fun main(int k) { a[k && y] = (k ? f(x) : y++) + (k = 3, k); }")
        for k in (0, 1):
            self.assertEqual(len(all_runs(read(text.replace("k = 3, k", "7, 8")), [k])), 1)


class OwnSteps(unittest.TestCase):
    """Each row of the table: when the own step is possible, and what it does."""

    def test_num_and_ref_need_no_turn(self):
        self.assertEqual(made("7; &x; 1; &a[0];"), [(4, "step")])
        self.assertEqual(run(main("7; &x;"), [0]), (("ended", 0), (), (5, 0, (0, 0, 0), ("x", 0))))
        self.assertEqual(turns(main("return 7;"), [0]), [])
        self.assertEqual(value("7"), 7)

    def test_var(self):
        self.assertEqual(offered("x + k;"), [(0, "step"), (1, "step")])
        self.assertEqual([value("x"), value("k", 9), value("t", 0, "int t = 4;")], [5, 9, 4])
        self.assertEqual(value("*r", 0, "ref r = p;"), 5)

    def test_item(self):
        self.assertEqual(offered("a[x];"), [(0, "step")])
        self.assertEqual(offered("a[x];", [0]), [])
        self.assertEqual(offered("a[1];"), [(1, "step")])
        self.assertEqual(value("a[k]", 2, "a[2] = 8;"), 8)
        self.assertEqual(offered("a[k++];", [0]), [(0, "write"), (1, "step")])

    def test_at(self):
        self.assertEqual(offered("*p;"), [(0, "step")])
        self.assertEqual(offered("*p;", [0]), [(1, "step")])
        self.assertEqual(value("*p + *&a[1] + *&x", 0, "a[1] = 20;"), 30)

    def test_refitem(self):
        self.assertEqual(offered("&a[k];"), [(0, "step")])
        self.assertEqual(offered("&a[k];", [0]), [(1, "step")])
        self.assertEqual(run(main("p = &a[k];"), [2])[2][3], ("a", 2))

    def test_neg_not_and_op(self):
        self.assertEqual(offered("-x;"), [(0, "step")])
        self.assertEqual(offered("-x;", [0]), [(1, "step")])
        self.assertEqual(offered("x + y;", [1]), [(0, "step")])
        self.assertEqual(offered("x + y;", [1, 0]), [(2, "step")])
        self.assertEqual([value("-7"), value("!7"), value("!0"), value("-0")], [-7, 0, 1, 0])
        self.assertEqual([value("7 + 2"), value("7 - 9"), value("7 * -2"), value("7 / 2"), value("7 ~ 2")],
                         [9, -2, -14, 3, 1])
        self.assertEqual([value("1 < 2"), value("2 < 2"), value("3 < 2"), value("2 == 2"), value("2 == 3")],
                         [1, 0, 0, 1, 0])

    def test_parts_need_not_be_whole(self):
        self.assertEqual(offered("-x++;", [0]), [(0, "write"), (1, "step")])
        self.assertEqual(offered("x++ + 1;", [0, 1]), [(0, "write")])
        self.assertEqual(offered("!(x = 1);", [0, 1]), [(1, "write")])

    def test_and_or(self):
        self.assertEqual(offered("x++ && y;", [0]), [(0, "write")])
        self.assertEqual(offered("x++ && y;", [0, 0]), [(1, "step")])
        self.assertEqual(offered("y++ && x;", [0, 0]), [(2, "step")])
        self.assertEqual(offered("y++ || x;", [0, 0]), [(1, "step")])
        self.assertEqual(offered("x++ || y;", [0, 0]), [(2, "step")])
        self.assertEqual(offered("x && y++;", [0, 0]), [(1, "write"), (2, "step")])
        self.assertEqual(offered("1 && 0;"), [(2, "step")])
        self.assertEqual([value("7 && 9"), value("7 && 0"), value("0 && 7"), value("0 && 0")], [1, 0, 0, 0])
        self.assertEqual([value("7 || 9"), value("7 || 0"), value("0 || -7"), value("0 || 0")], [1, 1, 1, 0])

    def test_cond_and_comma(self):
        self.assertEqual(offered("x++ ? y : k;", [0]), [(0, "write")])
        self.assertEqual(offered("x++ ? y : k;", [0, 0]), [(1, "step")])
        self.assertEqual(offered("y++ ? y : k;", [0, 0]), [(2, "step")])
        self.assertEqual(offered("x ? y++ : k;", [0, 0]), [(1, "write"), (3, "step")])
        self.assertEqual(offered("1 ? 2 : 3;"), [(3, "step")])
        self.assertEqual(offered("x++, y;", [0]), [(0, "write")])
        self.assertEqual(offered("x, y++;", [0, 0]), [(1, "write"), (2, "step")])
        self.assertEqual(offered("&x, 2;"), [(2, "step")])
        self.assertEqual([value("7 ? 8 : 9"), value("0 ? 8 : 9"), value("7, 8"), value("-1 ? 8 : 9")], [8, 9, 8, 8])
        self.assertEqual([value("*(k ? &x : &y)"), value("*(1, p)"), value("(&x, &y) == (p, &y)")], [0, 5, 1])

    def test_parts_that_never_begin(self):
        self.assertEqual(printed("y && print(1); x || print(2); x ? print(3) : print(4); y ? print(5) : print(6);"),
                         (3, 6))
        self.assertEqual(end("0 && 1 / 0; 1 || a[7]; 0 ? f(1 / 0) : 1; 1 ? 2 : a[3]; return 4;"), ("ended", 4))
        self.assertEqual(made("y && x++ ;"), [(0, "step"), (2, "step")])

    def test_set(self):
        self.assertEqual(offered("x = k;"), [(0, "step")])
        self.assertEqual(offered("x = k;", [0]), [(1, "step")])
        self.assertEqual(offered("x = k;", [0, 0]), [(1, "write")])
        self.assertEqual(offered("a[k] = y;"), [(0, "step"), (1, "step")])
        self.assertEqual(offered("a[k] = y;", [1]), [(0, "step")])
        self.assertEqual(offered("a[k] = y;", [1, 0]), [(2, "step")])
        self.assertEqual(run(main("x = k = 9; a[1] = x + k; *p = a[1] + 1; *&a[2] = 4; p = &y; *p = 3;"), [0])[2],
                         (19, 3, (0, 18, 4), ("y", 0)))
        self.assertEqual(value("x = 7"), 7)
        self.assertEqual(value("p == (p = &y)"), 0)

    def test_the_step_of_a_set_takes_the_place(self):
        self.assertEqual(run(main("(*p = 8) + *(p = &y);"), [0],
                             [0, 0, 1, 1])[2], (8, 0, (0, 0, 0), ("y", 0)))
        body = "(a[k] = 8) + k++;"
        self.assertEqual(run(main(body), [1], [0, 0, 1, 1])[2][2], (0, 8, 0))
        self.assertEqual(run(main(body), [1], [1, 1, 0])[2][2], (0, 0, 8))

    def test_add(self):
        self.assertEqual(offered("x += k;"), [(0, "step")])
        self.assertEqual(offered("x += k;", [0]), [(1, "step")])
        self.assertEqual(offered("x += 1;"), [(1, "step")])
        self.assertEqual(offered("x += 1;", [0]), [(1, "write")])
        self.assertEqual(offered("*p += k;", [0]), [(1, "step")])
        self.assertEqual(run(main("x += 2; a[1] += x; a[1] += a[1]; *p += 1;"), [0])[2][:3], (8, 0, (0, 14, 0)))
        self.assertEqual(value("x += 7"), 12)

    def test_the_step_of_an_add_reads(self):
        body = "return (x += 1) + (x = 50);"
        self.assertEqual(run(main(body), [0], [0, 1, 1, 0]), (("ended", 56), (), (6, 0, (0, 0, 0), ("x", 0))))
        self.assertEqual(run(main(body), [0], [1, 1, 0]), (("ended", 101), (), (51, 0, (0, 0, 0), ("x", 0))))

    def test_inc(self):
        self.assertEqual(offered("x++;"), [(0, "step")])
        self.assertEqual(offered("x++;", [0]), [(0, "write")])
        self.assertEqual(offered("a[k]++;"), [(0, "step")])
        self.assertEqual(offered("(*p)++;", [0]), [(1, "step")])
        self.assertEqual(run(main("x++; a[x - 6]++; (*p)++;"), [0])[2][:3], (7, 0, (1, 0, 0)))
        self.assertEqual(value("x++"), 5)

    def test_writes_later_than_the_value_is_used(self):
        self.assertEqual(printed("print(x++ + x);", [0, 1]), (10,))
        self.assertEqual(printed("print(x++ + x);"), (11,))
        self.assertEqual(run(main("x = x++;"), [0])[2][0], 5)
        self.assertEqual(run(main("x = x++;"), [0], [0, 1, 1])[2][0], 6)
        self.assertEqual(made("x = x++;", [0, 1, 1]), [(0, "step"), (1, "step"), (1, "write"), (0, "write")])
        self.assertEqual(offered("x = x++;", [0, 1]), [(0, "write"), (1, "write")])

    def test_writes_that_come_behind_the_nodes_above(self):
        for body, next_turn in (("-x++, y;", (2, "step")), ("-x++ && y;", (2, "step")), ("-x++ +# y;", (2, "step")),
                                ("f(-x++);", (2, "call")), ("print#(-x++);", (2, "step"))):
            with self.subTest(body=body):
                self.assertEqual(offered(body, [0, 1]), [(0, "write")])
                self.assertEqual(offered(body, [0, 1, 0]), [next_turn])
        self.assertEqual(offered("!-x++ ? y : k;", [0, 1, 1]), [(0, "write")])
        self.assertEqual(offered("!-x++ ? y : k;", [0, 1, 1, 0]), [(4, "step")])
        body = "(x = -(y = k++)), a[0];"
        self.assertEqual(offered(body, [0, 1, 1, 1, 1]), [(0, "write"), (3, "write")])
        self.assertEqual(offered(body, [0, 1, 1, 1, 1, 0]), [(3, "write")])
        self.assertEqual(offered(body, [0, 1, 1, 1, 1, 1]), [(0, "write")])
        self.assertEqual(offered(body, [0, 1, 1, 1, 1, 1, 0]), [(5, "step")])

    def test_print(self):
        self.assertEqual(offered("print(x);"), [(0, "step")])
        self.assertEqual(offered("print(x);", [0]), [(1, "step")])
        self.assertEqual(printed("print(print(7) + 1); print(-1);"), (7, 8, -1))
        self.assertEqual(printed("print(1) + print(2);", [1]), (2, 1))

    def test_call(self):
        self.assertEqual(offered("f(k++);", [0]), [(0, "write")])
        self.assertEqual(offered("f(k++);", [0, 0]), [(1, "call")])
        self.assertEqual(offered("f(1) + f(2);"), [(1, "call"), (3, "call")])
        self.assertEqual(value("f(4) + x"), 9)
        self.assertEqual(run(main("f(f(7));"), [0])[2][0], 8)
        text = "fun g() { } fun h(int n) { if (n) { return n; } } fun main() { return g() + h(0) * 10 + h(7); }"
        self.assertEqual(run(read(text), []), (("ended", 7), (), ()))

    def test_marked_nodes(self):
        self.assertEqual(offered("x++ +# y;"), [(0, "step")])
        self.assertEqual(offered("x++ +# y;", [0]), [(0, "write")])
        self.assertEqual(offered("x++ +# y;", [0, 0]), [(1, "step")])
        self.assertEqual(offered("1 +# y++;", [0]), [(1, "write")])
        self.assertEqual(offered("1 +# y++;", [0, 0]), [(2, "step")])
        self.assertEqual(offered("x =# y++;", [0]), [(0, "write")])
        self.assertEqual(offered("-#y++;", [0]), [(0, "write")])
        self.assertEqual(offered("f#(x);", [0]), [(1, "call")])
        for body in ("a[#k++];", "&a[#k++];", "!#k++;", "print#(k++);", "f#(k++);", "a[k++] =# 1;", "a[k++] +=# 1;"):
            self.assertEqual(offered(body, [0]), [(0, "write")])
        self.assertEqual(offered("*#(p = &x);", [0]), [(1, "write")])
        self.assertEqual(offered("a[k++]++#;", [0]), [(0, "write")])
        self.assertEqual(offered("a[k] =# x + y;"), [(0, "step")])
        self.assertEqual(offered("a[k] =# x + y;", [0]), [(1, "step"), (2, "step")])
        text = "fun g(int n, int m, int o, int p) { } fun main(int k) { g#(1, k++, 2, k); g#(k, 3, 4, 5); }"
        self.assertEqual([turns(read(text), [0])[at][1:] for at in range(4)],
                         [(1, "step"), (1, "write"), (3, "step"), (4, "call")])
        self.assertEqual(possible(read(text), [0], [0]), [(0, 1, "write")])
        self.assertEqual(turns(read(text), [0])[4:], [(0, 5, "step"), (0, 9, "call")])
        text = "fun g(int n, int m) { } fun main(int k) { g#(k++, k); }"
        self.assertEqual(possible(read(text), [0], []), [(0, 0, "step")])
        self.assertEqual(possible(read(text), [0], [0]), [(0, 0, "write")])
        self.assertEqual(possible(read(text.replace("#", "")), [0], [0]), [(0, 0, "write"), (0, 1, "step")])


class Values(unittest.TestCase):
    def test_wrapping(self):
        front = "int g = 2147483647; int l = -2147483647 - 1;"
        for text, told_value in (
                ("g + 1", -2147483648), ("l - 1", 2147483647), ("g * g", 1), ("l * l", 0), ("-l", -2147483648),
                ("g * 2", -2), ("l / -1", -2147483648), ("l ~ -1", 0), ("g += 1", -2147483648),
                ("(l += -1)", 2147483647), ("g + g", -2), ("(g++, g)", -2147483648), ("65536 * 65536", 0),
                ("65536 * 32768", -2147483648), ("l - g", 1), ("l * 3", -2147483648), ("g * -g", -1)):
            with self.subTest(text=text):
                self.assertEqual(value(text, 0, front), told_value)

    def test_division_of_negative_numbers(self):
        for left, right, quotient, rest in ((7, 2, 3, 1), (-7, 2, -4, 1), (7, -2, -4, -1), (-7, -2, 3, -1),
                                            (6, -3, -2, 0), (-6, 3, -2, 0), (0, -5, 0, 0), (1, -2147483647, -1, -2147483646)):
            with self.subTest(left=left, right=right):
                self.assertEqual(value(f"{left} / {right}"), quotient)
                self.assertEqual(value(f"{left} ~ {right}"), rest)

    def test_references(self):
        self.assertEqual([value("p == &x"), value("p == &y"), value("&a[1] == &a[1]"), value("&a[0] == &a[1]")],
                         [1, 0, 1, 0])
        body = "ref r = &a[1]; *r = 4; (*r)++; r = p; *r += 10; p = &a[2]; *p = *r; return a[1];"
        self.assertEqual(run(main(body), [0]), (("ended", 5), (), (15, 0, (0, 5, 15), ("a", 2))))
        text = ("int a[2]; ref p = &a[1]; fun f(ref r, ref s) { *r = 3; *s += *r; r = s; *r += 1; } "
                "fun main() { f(&a[0], p); }")
        self.assertEqual(run(read(text), [])[2], ((3, 4), ("a", 1)))

    def test_locals(self):
        text = ("int x = 0; fun f(int n) { int t = n * 2; n = t + 1; if (n < 10) { int u = f(n); t += u; } "
                "return t + n; } fun main(int k) { int t = f(k); return t; }")
        self.assertEqual(run(read(text), [1])[0], ("ended", 47))
        self.assertEqual(end("while (k < 3) { int t = k; t++; k = t; a[k - 1] = t; } return k;"), ("ended", 3))
        self.assertEqual(made("int t = x;"), [(0, "step"), (1, "step"), (1, "write")])

    def test_if_while_return(self):
        self.assertEqual(end("if (k) { return 1; } else { return 2; }", (), 0), ("ended", 2))
        self.assertEqual(end("if (k) { return 1; } else { return 2; }", (), -4), ("ended", 1))
        self.assertEqual(end("if (k) { return 1; } return 3;"), ("ended", 3))
        self.assertEqual(printed("while (k < 3) { print(k++); } print(9);"), (0, 1, 2, 9))
        self.assertEqual(printed("while (y++ < 2) { if (k) { while (x) { return 1; } } print(y); }"), (1, 2))
        self.assertEqual(end("while (1 < 2) { if (4 < x++) { return x; } }"), ("ended", 6))
        self.assertEqual(printed("return print(1); print(2);"), (1,))
        self.assertEqual(end("if (1) { } else { } if (0) { }"), ("ended", 0))
        self.assertEqual(printed("if (1) { if (0) { } else { print(1); } } else { print(2); } print(3);"), (1, 3))

    def test_a_full_expression_is_whole_before_the_next(self):
        self.assertEqual(offered("x++; y;", [0]), [(0, "write")])
        self.assertEqual(offered("if (x++) { y; }", [0]), [(0, "write")])
        self.assertEqual(offered("while (x++) { y; }", [0]), [(0, "write")])
        self.assertEqual(offered("return -x++;", [0, 1]), [(0, "write")])
        self.assertEqual(run(main("return x++;"), [0]), (("ended", 5), (), (6, 0, (0, 0, 0), ("x", 0))))


class Calls(unittest.TestCase):
    def test_one_piece(self):
        self.assertEqual(turns(CALLS, []), [
            (0, 4, "call"), (1, 0, "step"), (1, 1, "step"), (1, 1, "write"), (1, 2, "step"),
            (0, 6, "call"), (1, 0, "step"), (1, 1, "step"), (1, 1, "write"), (1, 2, "step"),
            (0, 7, "step"), (0, 8, "step")])
        self.assertEqual(possible(CALLS, [], [1]), [(1, 0, "step")])
        self.assertEqual(possible(CALLS, [], [0, 0]), [(1, 1, "step")])
        self.assertEqual(possible(CALLS, [], [0] * 5), [(0, 6, "call")])

    def test_calls_in_calls(self):
        text = ("int x = 0; fun f() { x++; return x; } fun g() { return f() - f(); } "
                "fun main() { return g() * 10 + g(); }")
        program = read(text)
        self.assertEqual([turn for turn in turns(program, []) if turn[2] == "call"],
                         [(0, 5, "call"), (1, 2, "call"), (1, 3, "call"), (0, 8, "call"), (1, 2, "call"), (1, 3, "call")])
        self.assertEqual(run(program, []), (("ended", -11), (), (4,)))
        self.assertEqual(run(program, [], [0, 1]), (("ended", 9), (), (4,)))
        self.assertEqual(possible(program, [], [1]), [(1, 2, "call"), (1, 3, "call")])
        self.assertEqual(possible(program, [], [1, 1, 0]), [(2, 0, "write")])

    def test_a_body_without_turns(self):
        text = "fun f() { } fun g() { return 4; } fun main() { return f() + g(); }"
        self.assertEqual(turns(read(text), []), [(0, 1, "call"), (0, 2, "call"), (0, 3, "step")])
        self.assertEqual(run(read(text), [])[0], ("ended", 4))

    def test_depth(self):
        text = "int x = 0; fun f(int n) { x++; return n < 1 ? 0 : f(n - 1) + 1; } fun main(int k) { return f(k); }"
        self.assertEqual(run(read(text), [10]), (("ended", 10), (), (11,)))
        found = run(read(text), [11])
        self.assertEqual(found, (("stuck", ((8, "deep"),)), (), (11,)))
        deepest = max(depth for depth, _, _ in turns(read(text), [11]))
        self.assertEqual(deepest, 11)
        self.assertEqual(possible(read(text), [11], [0] * 500), [])

    def test_a_call_that_is_too_deep_beside_others(self):
        text = "int x = 0; fun f() { x++; return f() + print(x); } fun main() { f(); print(7); }"
        program = read(text)
        self.assertEqual(run(program, []), (("stuck", ((1, "deep"),)), tuple([11] * 11), (11,)))
        self.assertEqual(turns(program, [])[-1], (1, 3, "step"))


class CallsInEachOther(unittest.TestCase):
    """Programs in which a body calls the next one, as deep as it goes."""

    def down(self, n):
        return read("int x = 0; int c = 0; fun down(int n) { c++; return n ? down(n - 1) : c; } "
                    f"fun main() {{ print(down({n}) + (x = 90)); }}")

    def test_results(self):
        for n in range(11):
            value = n + 1 + 90
            for choices in ([], [1], [1, 1, 1], [0] * 20 + [1, 2, 3], [5] * 99):
                self.assertEqual(run(self.down(n), [], choices), (("ended", 0), (value,), (90, n + 1)))
        for n in (11, 12, 13):
            for choices in ([], [1], [1, 1, 1], [0] * 20 + [1, 2, 3]):
                self.assertEqual(run(self.down(n), [], choices), (("stuck", ((5, "deep"),)), (), (90, 11)))

    def test_turns(self):
        for n in range(11):
            done = turns(self.down(n), [], [1])
            self.assertEqual(len(done), 10 + 7 * n)
            self.assertEqual(done[:2], [(0, 11, "step"), (0, 9, "call")])
            self.assertEqual(sum(kind == "call" for _, _, kind in done), n + 1)
            self.assertEqual(max(depth for depth, _, _ in done), n + 1)
            for at in (0, 1, len(done) // 2, len(done) - 1):
                offers = possible(self.down(n), [], [1] + [0] * (at - 1) if at else [])
                self.assertIn(done[at], offers)
                self.assertEqual(len({depth for depth, _, _ in offers}), 1)
            self.assertEqual(choices_of(self.down(n), [], done), [1])
            self.assertEqual(choices_of(self.down(n), [], turns(self.down(n), [], [1, 1, 1])), [1, 1])
        self.assertEqual(len(turns(self.down(11), [])), len(turns(self.down(13), [])))


class BlockedSteps(unittest.TestCase):
    def stuck(self, body, *told_pairs, k=0, choices=()):
        pairs = tuple((node + IN_F, word) for node, word in told_pairs)
        self.assertEqual(end(body, choices, k), ("stuck", pairs))

    def test_index(self):
        for k in (3, -1, 2147483647):
            self.stuck("a[k];", (1, "index"), k=k)
            self.stuck("&a[k];", (1, "index"), k=k)
            self.stuck("a[k] = 1;", (2, "index"), k=k)
            self.stuck("a[k] += 1;", (2, "index"), k=k)
            self.stuck("a[k]++;", (1, "index"), k=k)
        self.assertEqual(end("a[0]; a[2]; &a[2]; a[2] = 1; a[0] += 1; a[2]++;"), ("ended", 0))

    def test_nought(self):
        self.stuck("1 / k;", (2, "nought"))
        self.stuck("1 ~ k;", (2, "nought"))
        self.stuck("0 / 0;", (2, "nought"))
        self.assertEqual(end("0 / 1; 0 * 0; 0 - 0;"), ("ended", 0))

    def test_a_blocked_step_is_no_turn(self):
        self.assertEqual(made("1 / 0 + x;"), [(3, "step")])
        self.assertEqual(offered("1 / 0 + x;", [0]), [])
        self.assertEqual(made("a[4] = x;"), [(1, "step")])
        self.assertEqual(run(main("a[4] = (x = 9);"), [0])[2][0], 9)

    def test_it_is_blocked_only_when_it_waits_for_nothing(self):
        self.stuck("(1 / 0) / 0;", (2, "nought"))
        self.stuck("a[1 / 0] = 7;", (2, "nought"))
        self.stuck("a[7] +# 1 / 0;", (1, "index"))
        self.stuck("a[7], 1 / 0;", (1, "index"))
        self.stuck("x / 0 && 1 / 0;", (2, "nought"))
        self.stuck("f(1 / 0);", (2, "nought"))
        self.stuck("a[7] = 1 / 0;", (3, "nought"))

    def test_everything_else_goes_on(self):
        self.assertEqual(run(main("print(1) + a[7] + print(2) + f(9); print(3);"), [0]),
                         (("stuck", ((3 + IN_F, "index"),)), (1, 2), (9, 0, (0, 0, 0), ("x", 0))))
        self.assertEqual(printed("print(1) + a[7] + print(2);", [1]), (2, 1))
        self.assertEqual(run(main("x++ / y;"), [0])[2][0], 6)
        self.assertEqual(printed("print(1) +# a[7] +# print(2);"), (1,))

    def test_several_at_once(self):
        self.stuck("a[7] + 1 / 0 + (&a[9] == p);", (1, "index"), (4, "nought"),
                   (7, "index"))
        self.stuck("f(a[8]) + a[9];", (1, "index"), (4, "index"))

    def test_in_calls(self):
        text = ("int a[2]; int x = 0; fun f(int n) { x = x + 1; return print(n) / (n - n); } "
                "fun main() { f(1) + (a[5] + f(2)); print(3); }")
        self.assertEqual(run(read(text), []),
                         (("stuck", ((9, "nought"), (9, "nought"), (13, "index"))), (1, 2), (((0, 0), 2))))
        self.assertEqual(run(read(text), [], [1])[1], (2, 1))
        deeper = ("int x = 1; fun f(int n) { return n / 0 + n ~ 0; } fun g(int n) { return f(n) + f(n) + print(n); } "
                  "fun main() { return g(4) - 1 / 0; }")
        self.assertEqual(run(read(deeper), [])[:2],
                         (("stuck", ((2, "nought"), (2, "nought"), (5, "nought"), (5, "nought"), (19, "nought"))), (4,)))

    def test_what_a_blocked_body_did_stands(self):
        text = ("int x = 0; fun f() { x = 7; return 1 / (x++ - x++ - 1); } fun g() { x = 9; } "
                "fun main() { f() + g(); x = 1; }")
        found = run(read(text), [], [0] * 40)
        self.assertEqual(found[0], ("ended", 0))
        text = "int x = 0; fun f() { x = 7; return 1 / 0; } fun main() { f() + (x + print(x)); x = 1; }"
        self.assertEqual(run(read(text), []), (("stuck", ((4, "nought"),)), (7,), (7,)))
        self.assertEqual(turns(read(text), []), [
            (0, 5, "call"), (1, 1, "step"), (1, 1, "write"), (0, 6, "step"), (0, 7, "step"), (0, 8, "step"),
            (0, 9, "step")])

    def test_writes_in_a_blocked_expression_are_done(self):
        self.assertEqual(run(main("(x = 9) / 0;"), [0])[2][0], 9)
        self.assertEqual(made("(x = 9) / 0;"), [(1, "step"), (1, "write")])

    def test_a_return_in_front_is_in_effect(self):
        self.assertEqual(end("return 3; 1 / 0;"), ("ended", 3))


class Choices(unittest.TestCase):
    def test_choices_that_the_list_does_not_have(self):
        self.assertEqual(turns(CLASH, [5], [7, 9, 100, 4]), turns(CLASH, [5], [1, 1, 1, 0]))
        self.assertEqual(run(CLASH, [5], [2147483647] * 3), run(CLASH, [5], [1, 1, 1]))

    def test_choices_behind_the_end(self):
        self.assertEqual(turns(CALM, [7]), turns(CALM, [7], [0] * 3))
        self.assertEqual(turns(CALM, [7], [0] * 500), turns(CALM, [7], []))
        self.assertEqual(turns(CALM, [7], [0, 0, 1]), turns(CALM, [7], (0, 0, 1, 0)))

    def test_from_left_to_right(self):
        self.assertEqual(made("x = y++ + f(a[1]++);"), [
            (0, "step"), (0, "write"), (2, "step"), (2, "write"), (3, "call"), (0 - IN_F, "step"),
            (1 - IN_F, "step"), (1 - IN_F, "write"), (2 - IN_F, "step"), (4 - IN_F, "step"), (4, "step"),
            (5, "step"), (5, "write")])

    def test_listed_by_nodes(self):
        self.assertEqual(offered("(x = 1) + y++ + a[1];", [1]), [(1, "step"), (2, "write"), (5, "step")])
        self.assertEqual(offered("(x = 1) + y++ + a[1];", [1, 0]),
                         [(1, "write"), (2, "write"), (3, "step"), (5, "step")])
        self.assertEqual(offered("(x = 1) + y++ + a[1];", [1, 0, 2]), [(1, "write"), (2, "write"), (5, "step")])

    def test_possible(self):
        self.assertEqual(possible(PAIR, [], []), [(0, 0, "step")])
        self.assertEqual(possible(PAIR, [], [0]), [(0, 0, "write"), (0, 1, "step")])
        self.assertEqual(possible(PAIR, [], [0, 5]), [(0, 0, "write"), (0, 1, "write")])
        self.assertEqual(possible(PAIR, [], [0, 0, 0, 0]), [])
        self.assertEqual(possible(PAIR, [], [0] * 9), [])
        self.assertEqual(possible(read("fun main() { }"), [], []), [])
        self.assertEqual(len(possible(main("while (y < 2) { x; }"), [0], [0] * 3000)), 1)

    def test_choices_of(self):
        for program, inputs in ((DEMO, [3]), (CALM, [1]), (CLASH, [2]), (TWO, []), (CALLS, []), (TWICE, [1])):
            for choices in ([], [1], [1, 1], [2, 0, 1], [1, 0, 1, 1], [3, 3, 3, 3, 3, 3]):
                some = turns(program, inputs, choices)
                found = choices_of(program, inputs, some)
                self.assertEqual(turns(program, inputs, found), some)
                self.assertTrue(not found or found[-1] != 0)
                for at, choice in enumerate(found):
                    self.assertLess(choice, len(possible(program, inputs, found[:at])))
                self.assertEqual(turns(program, inputs, choices_of(program, inputs, some[:3]))[:3], some[:3])
        self.assertEqual(choices_of(CALM, [7], []), [])
        self.assertEqual(choices_of(CALM, [7], turns(CALM, [7])), [])

    def test_no_run(self):
        whole = turns(CALM, [7])
        for some, at in (([(0, 9, "step")], 0), ([(1, 0, "step")], 0), ([(0, 0, "write")], 0), ([(0, 0, "call")], 0),
                         (whole[:2] + [(0, 1, "step")], 2), (whole[:3] + whole[:1], 3), (whole + [(0, 0, "step")], len(whole)),
                         (whole + whole, len(whole)), ([whole[0], whole[1], whole[3], (0, 4, "write")], 3)):
            with self.subTest(some=some):
                with self.assertRaises(NoRun) as caught:
                    choices_of(CALM, [7], some)
                self.assertEqual(caught.exception.at, at)
        with self.assertRaises(NoRun) as caught:
            choices_of(CALLS, [], [(0, 4, "call"), (0, 6, "call")])
        self.assertEqual(caught.exception.at, 1)

    def test_most(self):
        many = len(turns(CALM, [7]))
        self.assertEqual(run(CALM, [7], most=many), run(CALM, [7]))
        self.assertEqual(run(CALM, [7], most=many - 1), (("going",), (), (9, 7)))
        self.assertEqual(len(turns(CALM, [7], most=many - 1)), many - 1)
        self.assertEqual(turns(CALM, [7], [0, 0, 1], most=3), [(0, 0, "step"), (0, 1, "step"), (0, 3, "step")])
        self.assertEqual(run(CALM, [7], most=1), (("going",), (), (0, 0)))
        stuck = main("x++ / 0;")
        self.assertEqual(run(stuck, [0], most=2)[0][0], "stuck")
        self.assertEqual(run(stuck, [0], most=1), (("going",), (), (5, 0, (0, 0, 0), ("x", 0))))
        self.assertEqual(run(read("fun main() { }"), [], most=1), (("ended", 0), (), ()))

    def test_runs_without_end_are_cut(self):
        forever = main("while (x) { y++; }")
        self.assertEqual(run(forever, [0]), (("going",), (), (5, 666, (0, 0, 0), ("x", 0))))
        self.assertEqual(len(turns(forever, [0])), 2000)
        self.assertEqual(run(forever, [0], most=7), (("going",), (), (5, 2, (0, 0, 0), ("x", 0))))

    def test_cut_in_a_call(self):
        self.assertEqual(run(CALLS, [], most=4), (("going",), (), (1,)))
        self.assertEqual(run(CALLS, [], most=5), (("going",), (), (1,)))
        self.assertEqual(turns(CALLS, [], most=3), [(0, 4, "call"), (1, 0, "step"), (1, 1, "step")])


class Arguments(unittest.TestCase):
    def test_other_inputs(self):
        for asked in (lambda inputs: run(CALM, inputs), lambda inputs: turns(CALM, inputs),
                      lambda inputs: possible(CALM, inputs, []),
                      lambda inputs: choices_of(CALM, inputs, [(9, 9, "step")])):
            for inputs in ([], [1, 2], [0] * 7):
                with self.assertRaises(OtherInputs) as caught:
                    asked(inputs)
                self.assertEqual(caught.exception.many, 1)
        with self.assertRaises(OtherInputs) as caught:
            run(TWO, [1])
        self.assertEqual(caught.exception.many, 0)

    def test_lists_tuples_and_names(self):
        inputs, choices = [5], [1, 1, 1]
        self.assertEqual(run(program=listed(CLASH), inputs=(5,), choices=(1, 1, 1), most=2000), run(CLASH, [5], choices))
        self.assertEqual(turns(program=listed(CLASH), inputs=(5,), choices=(1,), most=9), turns(CLASH, inputs, [1]))
        self.assertEqual(possible(program=listed(CLASH), inputs=(5,), choices=()), possible(CLASH, [5], []))
        some = turns(CLASH, [5], choices)
        self.assertEqual(choices_of(program=listed(CLASH), inputs=(5,), some=tuple(listed(some))), choices)
        self.assertEqual([inputs, choices], [[5], [1, 1, 1]])
        self.assertTrue(only_tuples(run(listed(TWICE), [1])))
        self.assertTrue(all(isinstance(turn, tuple) for turn in turns(listed(CLASH), [5])))

    def test_most_only_by_name(self):
        with self.assertRaises(TypeError):
            run(CALM, [7], [], 5)
        with self.assertRaises(TypeError):
            turns(CALM, [7], [], 5)

    def test_arguments_are_not_modified(self):
        program, inputs, choices = listed(TWICE), [1], [1, 0, 2]
        kept = (listed(TWICE), [1], [1, 0, 2])
        first = run(program, inputs, choices)
        self.assertEqual((program, inputs, choices), kept)
        self.assertEqual(run(program, inputs, choices), first)
        self.assertIsNot(turns(program, inputs), turns(program, inputs))


if __name__ == "__main__":
    unittest.main()
