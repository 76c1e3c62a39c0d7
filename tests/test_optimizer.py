"""[19]: the passes, each line of its table, and what is left of it."""

import random
import unittest

from openorder.code import rows_of
from openorder.codemachine import code_run
from openorder.codetexts import code_in, code_text
from openorder.fitting import fitted
from openorder.machine import run
from openorder.nodes import node_many
from openorder.optimizer import PASSES, improved, optimized
from openorder.reader import read
from openorder.watcher import first_conflict
from tests.codes import Told, many_rows, reads, wrong_rows, written
from tests.leftover import left_by
from tests.programs import ALL, TWICE, listed, only_tuples
from tests.test_code import made

SORTS = {
    "known": ("op", "neg", "not", "copy", "unless"), "shared": ("op", "neg", "not", "num", "ref", "refi"),
    "carried": ("get", "geti", "getat"), "trusted": ("get", "geti", "getat"), "overwritten": ("put",),
    "unused": ("num", "ref", "copy", "get", "geti", "getat", "refi", "op", "neg", "not", "put"),
    "lifted": ("num", "ref", "op", "neg", "not", "get"),
}
WHATS = {"fold": ("known", "unreached"), "share": ("shared",), "carry": ("carried", "trusted"),
         "drop": ("unused", "overwritten"), "lift": ("lifted",)}
HEAD = ("int x = 5; int y = 2; int z = 0; int a[3]; ref p = &x; ref q = &a[1]; fun f(int n) { x = n; return n + 1; } "
        "fun g() { return y; } ")


def main(body, head=HEAD):
    return read(head + "fun main(int k) { " + body + " }")


def rows(code, name="main"):
    return [routine[3] for routine in code[1] if routine[0] == name][0]


def through(program, *words):
    """Return the CODE after some passes."""
    return optimized(program, words)


class Passes(unittest.TestCase):
    def steps(self, body, word, *ahead, head=HEAD):
        """Return the steps of a pass in main, as triples (what, the ROW's word, the ROW), in their order."""
        program = main(body, head)
        code = through(program, *ahead)
        return [(what, rows(code)[row][0], rows(code)[row]) for name, row, what in improved(program, code, word)[1] if name == "main"]

    def whats(self, body, word, *ahead, head=HEAD):
        """Return what a pass does in main, each with the word of the ROW."""
        return sorted((what, told) for what, told, _ in self.steps(body, word, *ahead, head=head))

    def words(self, body, *passes, head=HEAD):
        """Return the words of main's ROWs behind some passes."""
        return [row[0] for row in rows(through(main(body, head), *passes))]


class Examples(unittest.TestCase):
    def test_examples(self):
        self.assertEqual(PASSES, ("fold", "share", "carry", "drop", "lift"))
        self.assertIn("trusted", [what for routine, row, what in improved(TWICE, rows_of(TWICE), "carry")[1]])
        self.assertEqual([code_run(optimized(TWICE), [4])[0] == run(TWICE, [4]), optimized(TWICE, []) == rows_of(TWICE)], [True, True])


class Fold(Passes):
    def test_numbers(self):
        for text, value in (("2 + 3", 5), ("2147483647 + 1", -2147483648), ("-7 / 2", -4), ("-7 ~ 2", 1), ("3 < 4", 1), ("3 == 4", 0),
                            ("-(1 - 3)", 2), ("!(2 - 2)", 1), ("2 * 3 - 4 / 2", 4)):
            program = main("return " + text + ";")
            code, steps = improved(program, rows_of(program), "fold")
            self.assertEqual({what for _, _, what in steps}, {"known"})
            self.assertEqual(rows(code)[-2][0:1] + rows(code)[-2][2:3], ("num", value))
            self.assertEqual({row[0] for row in rows(code)}, {"num", "return"})

    def test_what_is_no_number(self):
        for body in ("return x + 1;", "return 1 / 0;", "return 1 ~ (2 - 2) * 0;", "return k / 0;", "return &x == p;", "return x ? 1 : 1;",
                     "if (x) { y = 1; }", "while (k) { k++; }", "return (k && 0) + 1;"):
            found = self.steps(body, "fold")
            self.assertFalse([row for what, word, row in found if word == "op" and row[2] in ("/", "~")])
            self.assertFalse([row for what, word, row in found if word in ("unless", "copy") and "1 : 1" not in body])
        self.assertEqual(self.whats("return &x == p;", "fold"), [])

    def test_conditions(self):
        self.assertEqual(self.words("if (1 < 2) { x = 1; } else { x = 2; }", "fold"), ["num", "num", "num", "num", "put", "jump"])
        self.assertEqual(self.words("if (2 < 1) { x = 1; } else { x = 2; }", "fold"), ["num", "num", "num", "jump", "num", "put"])
        self.assertEqual(self.words("while (2 < 1) { x = 1; }", "fold"), ["num", "num", "num", "jump"])
        self.assertEqual(self.words("while (1 < 2) { x = 1; }", "fold"), ["num", "num", "num", "num", "put", "jump"])
        self.assertEqual(self.whats("0 ? x : y;", "fold"), [("known", "unless"), ("unreached", "copy"), ("unreached", "get"),
                                                            ("unreached", "jump")])

    def test_one_step_makes_another_possible(self):
        found = self.words("return (0 ? x : 7) + (1 && 2);", "fold")
        self.assertNotIn("op", found)
        self.assertNotIn("copy", found)
        self.assertEqual(run(main("return (0 ? x : 7) + (1 && 2);"), [0])[0], code_run(through(main(
            "return (0 ? x : 7) + (1 && 2);"), "fold"), [0])[0][0])

    def test_unreached(self):
        self.assertEqual(self.words("return x; print(1); while (k) { }", "fold"), ["get", "return"])
        self.assertEqual(self.words("if (k) { return 1; } else { return 2; } print(x);", "fold"),
                         ["get", "unless", "num", "return", "num", "return"])

    def test_copies_stand_for_what_they_copy(self):
        self.assertIn(("known", "op"), self.whats("x = 3; return x + 4;", "fold", "carry"))
        self.assertIn(("known", "copy"), self.whats("x = 3; return x + 4;", "fold", "carry"))
        self.assertIn(("known", "unless"), self.whats("z = 0; if (z) { print(1); }", "fold", "carry"))


class Share(Passes):
    def test_alike(self):
        for text, words in (("7 - 7", ["num"]), ("(&x == p) + (&x == p)", ["ref"]), ("-k + -k", []), ("!k + !k", [])):
            self.assertEqual(self.whats("print(" + text + ");", "share"), [("shared", word) for word in words], text)
        self.assertEqual(self.whats("print(-k + -k);", "share", "carry"), [("shared", "neg")])
        self.assertEqual(self.whats("print(!k + !k);", "share", "carry"), [("shared", "not")])
        self.assertEqual(self.whats("print((k + y) * (k + y));", "share", "carry"), [("shared", "op")])
        self.assertEqual(self.whats("print((k / y) * (k / y));", "share", "carry"), [("shared", "op")])
        self.assertEqual(self.whats("p = &a[k]; q = &a[k];", "share", "carry"), [("shared", "refi")])
        self.assertEqual(self.whats("p = &a[1]; q = &a[1];", "share"), [("shared", "num"), ("shared", "refi")])

    def test_not_alike(self):
        for text in ("k - y + (y - k)", "k + y + (k - y)", "-k + !k", "1 + 2", "(&x == p) + (&y == p)"):
            self.assertEqual(self.whats("print(" + text + ");", "share", "carry"), [], text)
        self.assertEqual(self.whats("p = &a[k]; q = &a[y];", "share", "carry"), [])

    def test_only_in_one_stretch(self):
        self.assertEqual(self.whats("x = 7; if (k) { y = 7; } z = 7;", "share"), [])
        self.assertEqual(self.whats("x = 7; if (k) { y = 7; z = 7; }", "share"), [("shared", "num")])
        self.assertEqual(self.whats("while (k++ < 7) { x = 7; }", "share"), [])
        self.assertEqual(self.whats("x = 7; g(); y = 7;", "share"), [("shared", "num")])


class Carry(Passes):
    def test_what_was_read_or_written(self):
        for body, words in (("print(x); print(x);", ["get"]), ("x = k; print(x);", ["get"]), ("print(k); print(k);", ["get"]),
                            ("print(a[1]); print(a[1]);", ["geti"]), ("a[1] = k; print(a[1]);", ["geti"]),
                            ("print(a[k]); print(a[k]);", ["get", "geti"]), ("a[k] = 1; print(a[k]);", ["get", "geti"]),
                            ("print(*p); print(*p);", ["get", "getat"]), ("*p = 3; print(*p);", ["get", "getat"]),
                            ("int t = k; print(t); print(t);", ["get", "get"]), ("print(*&x); print(x);", ["get"]),
                            ("x = 1; print(*&x);", ["getat"]), ("*&x = 4; print(x);", ["get"])):
            found = self.whats(body, "carry")
            self.assertEqual([word for what, word in found], words, body)
            self.assertEqual({what for what, word in found}, {"carried"}, body)

    def test_what_may_be_written_between(self):
        for body, words in (("print(x); f(1); print(x);", []), ("print(x); g(); print(x);", ["get"]), ("print(y); f(1); print(y);", ["get"]),
                            ("print(x); *p = 1; print(x);", []), ("print(y); *p = 1; print(y);", ["get"]), ("print(a[1]); *q = 1; print(a[1]);", []),
                            ("print(a[1]); a[2] = 1; print(a[1]);", ["geti"]), ("print(a[1]); a[k] = 1; print(a[1]);", []),
                            ("print(*p); x = 1; print(*p);", ["get"]), ("print(*p); y = 1; print(*p);", ["get", "getat"]),
                            ("print(x); *&x = k; print(x);", ["get"]), ("print(x); *&y = k; print(x);", ["get"]), ("print(k); f(1); print(k);", ["get"]),
                            ("print(a[k]); k++; print(a[k]);", ["get", "get"]), ("print(a[k]); a[0] = 1; print(a[k]);", ["get"])):
            self.assertEqual([word for what, word in self.whats(body, "carry")], words, body)

    def test_only_in_one_stretch(self):
        self.assertEqual(self.whats("print(x); if (k) { print(x); } print(x);", "carry"), [])
        self.assertEqual(self.whats("print(k ? x : x);", "carry"), [])

    def test_trusted(self):
        self.assertEqual(self.whats("x + (*p = 4) + x;", "carry"), [("trusted", "get")])
        self.assertEqual(self.whats("x + f(k) + x;", "carry"), [("trusted", "get")])
        self.assertEqual(self.whats("a[0] + (a[k] = 1) * a[0];", "carry"), [("carried", "get")][:0] + [("trusted", "geti")])
        # Sequenced: by a mark, by a comma, in another full expression.
        self.assertEqual(self.whats("x +# (*p = 4) +# x;", "carry"), [])
        self.assertEqual(self.whats("(x, *p = 4), x;", "carry"), [])
        self.assertEqual(self.whats("x; *p = 4; x;", "carry"), [])
        # Unsequenced with one of both is enough.
        self.assertEqual(self.whats("(x + (*p = 4)), x;", "carry"), [("trusted", "get")])
        self.assertEqual(self.whats("x +# ((*p = 4) + x);", "carry"), [("trusted", "get")])
        # Each ROW between that may write there needs it.
        self.assertEqual(self.whats("(x + (*p = 4)); *p = 5; x;", "carry"), [("carried", "get")])

    def test_trusted_code_does_what_runs_without_conflicts_do(self):
        program = main("p = k ? &y : &z; print(x + (*p = 4) + x); print(x); return y;")
        code, steps = improved(program, rows_of(program), "carry")
        self.assertIn("trusted", [what for _, _, what in steps])
        self.assertEqual(code_run(code, [1])[0], run(program, [1]))

    def test_the_last_one_that_is_left(self):
        self.assertEqual(self.whats("print(x); print(x); print(x);", "carry"), [("carried", "get")] * 2)
        code = through(main("x = k; print(x); y = x; print(x);"), "carry")
        self.assertEqual(sum(row[0] == "get" for row in rows(code)), 1)

    def test_one_step_makes_another_possible(self):
        self.assertEqual(self.whats("print(*p); print(*p); print(*p);", "carry"), [("carried", "get")] * 2 + [("carried", "getat")] * 2)
        self.assertEqual(self.words("k = 1; print(a[k]); print(a[1]);", "carry").count("geti"), 1)
        self.assertEqual(self.words("p = &x; print(*p); print(x);", "carry").count("get"), 0)


class Drop(Passes):
    def test_unused(self):
        for body, words in (("7;", ["num"]), ("&x;", ["ref"]), ("x;", ["get"]), ("*p;", ["get", "getat"]), ("a[1];", ["geti", "num"]),
                            ("&a[2];", ["num", "refi"]), ("-x;", ["get", "neg"]), ("!x;", ["get", "not"]), ("x + k;", ["get", "get", "op"]),
                            ("x / 2;", ["get", "num", "op"]), ("int t = 3;", ["num", "put"]), ("k = 3;", ["num", "put"]),
                            ("int t = x; t = y;", ["get", "get", "put", "put"]), ("ref r = &x;", ["put", "ref"])):
            found = self.whats(body, "drop")
            self.assertEqual(sorted(word for what, word in found), words, body)
            self.assertEqual({what for what, word in found} - {"overwritten"}, {"unused"}, body)
            self.assertEqual(self.words(body, "drop"), [])

    def test_what_can_stop_or_is_done_stays(self):
        for body, left in (("a[k];", ["get", "geti"]), ("a[3];", ["num", "geti"]), ("&a[3];", ["num", "refi"]), ("x / k;", ["get", "get", "op"]),
                           ("x ~ 0;", ["get", "num", "op"]), ("g();", ["call"]), ("print(x);", ["get", "print"]), ("x = 3;", ["num", "put"]),
                           ("a[1] = 3;", ["num", "num", "puti"]), ("*p = 3;", ["get", "num", "putat"]), ("f(1);", ["num", "arg", "call"])):
            self.assertEqual(self.words(body, "drop"), left, body)

    def test_locals_that_are_read(self):
        self.assertEqual(self.whats("int t = 3; print(t);", "drop"), [])
        self.assertEqual(self.words("int t = 3; t;", "drop"), [])
        self.assertEqual(self.words("int t = 3; print(t + t);", "carry", "drop"), ["num", "op", "print"])

    def test_overwritten(self):
        for body, many in (("x = 1; x = 2;", 1), ("x = 1; x = 2; x = 3;", 2), ("x = 1; y = x; x = 2;", 0), ("x = 1; g(); x = 2;", 1),
                           ("y = 1; g(); y = 2;", 0), ("x = 1; print(*p); x = 2;", 0), ("y = 1; print(*p); y = 2;", 1), ("x = 1; f(3); x = 2;", 1),
                           ("x = 1; if (k) { } x = 2;", 0), ("x = 1; return 3; x = 2;", 0), ("x = 1; *p = 3; x = 2;", 1), ("p = &x; p = &y;", 1),
                           ("a[1] = 1; a[1] = 2;", 0), ("x = 1; print(a[k]); x = 2;", 1), ("x = 1; *&x = 2;", 0), ("x = 1; print(*&y); x = 2;", 1),
                           ("int t = k; print(t); t = 1; t = 2; print(t);", 1), ("x = 1; print(*&x); x = 2;", 0)):
            found = [what for what, _, _ in self.steps(body, "drop")]
            self.assertEqual(found.count("overwritten"), many, body)

    def test_one_step_makes_another_possible(self):
        self.assertEqual(self.words("int t = k; int u = t; x = u * 2; x = y;", "drop"), ["get", "put"])
        self.assertEqual(self.words("x = 1; int t = x; x = 2;", "drop"), ["num", "put"])


class Lift(Passes):
    def lifted(self, body, *ahead):
        """Return the words of the ROWs that are lifted, ascending."""
        return sorted(word for what, word, _ in self.steps(body, "lift", *ahead))

    def test_what_gives_the_same(self):
        loop = "while (k++ < 9) { "
        for body, words in (("x = 7;", ["num"]), ("p = &x;", ["ref"]), ("x = y;", ["get"]), ("x = -y;", ["get", "neg"]), ("x = !y;", ["get", "not"]),
                            ("x = y + z;", ["get", "get", "op"]), ("x = y / 2;", ["get", "num", "op"]), ("x = y / z;", ["get", "get"]),
                            ("x = y ~ 0;", ["get", "num"]), ("x = k;", []), ("x = k + 1;", ["num"]), ("x = x + 1;", ["num"]), ("x = a[1];", ["num"]),
                            ("x = *p;", ["get"]), ("p = &a[1];", ["num"]), ("f(y);", ["get"]), ("x; f(1);", ["num"]), ("y; f(1);", ["get", "num"]),
                            ("g(); y;", ["get"]), ("x; *p = k;", ["get"]), ("z; *p = k;", ["get", "get"]), ("a[0] = y; *q = z;", ["get", "get", "get", "num"]),
                            ("x; *&x = k;", ["ref"]), ("y; *&x = k;", ["get", "ref"]), ("int t = 5; x = t;", ["num"]), ("print(3);", ["num"])):
            self.assertEqual(self.lifted(loop + body + " }"), words, body)

    def test_only_in_the_first_stretch(self):
        self.assertEqual(self.lifted("while (k++ < 9) { if (x) { y = 7; } z = 8; }"), ["get"])
        self.assertEqual(self.lifted("while (k++ < 9) { z = y && 3; }"), ["get"])
        self.assertEqual(self.lifted("while (k < 9) { }"), [])
        self.assertEqual(self.lifted("while (k++ < 9) { return 3; }"), ["num"])
        self.assertEqual(self.lifted("while (k++ < 9) { return 3; }", "fold"), [])
        self.assertEqual(self.lifted("if (k) { x = 3; }"), [])

    def test_only_in_loops_without_loops(self):
        self.assertEqual(self.lifted("while (k++ < 9) { x = 5; while (x++ < 3) { y = z; } z = 6; }"), ["get"])
        self.assertEqual(self.lifted("while (k++ < 9) { while (x++ < 3) { print(4); } while (x++ < 5) { print(-z); } }"), ["get", "neg", "num"])
        self.assertEqual(self.lifted("while (1, 1) { while (x++ < 3) { print(4); } return 2; }", "fold", "drop"), ["num"])

    def test_copies_stand_for_what_they_copy(self):
        self.assertEqual(self.lifted("while (k++ < 9) { x = 7 + 7; }", "share"), ["num", "op"])
        self.assertEqual(self.lifted("while (k++ < 9) { x = y + y; }", "carry"), ["get", "op"])

    def check(self, body, inputs=(0, 1, 5, 8, 9, 10)):
        """Check that lifted ROWs are done once, when the body is first entered, and nothing else more often."""
        program = main(body)
        code = rows_of(program)
        found, steps = improved(program, code, "lift")
        for k in inputs:
            ahead, behind = Told(code, [k]), Told(found, [k])
            self.assertEqual(ahead.outcome, behind.outcome)
            self.assertLessEqual(behind.done, ahead.done)
            yield program, steps, ahead, behind

    def test_lifted_rows_are_done_once(self):
        for _, steps, ahead, behind in self.check("while (k < 9) { k += 1; print(y * 3 + z); } return k;"):
            entered = ahead.counts[("main", 3)] - 1
            self.assertEqual(len(steps), 6)
            self.assertEqual(ahead.done - behind.done, max(0, (entered - 1) * len(steps) + 1))

    def test_conditions_of_many_rows(self):
        for condition in ("k < 9 && (k += 1)", "k++ < 9 || 0", "(k++ < 9 ? k : 0) && x", "x = y, k++ < 9", "f(k++) < 9", "k++ / 9 == 0"):
            for body in ("x = 7;", "print(y * 2); if (k == 3) { x = 9; }", "if (k ~ 2) { return 8; } x = -3;", "z = y; int t = 4; z += t;"):
                for _ in self.check("while (" + condition + ") { " + body + " } return x;"):
                    pass

    def test_loops_side_by_side_and_in_each_other(self):
        for _ in self.check("while (k++ < 6) { while (x++ < 9) { y = -z; } while (y++ < 3) { z = 7; } x = k; } "
                            "while (k < 20) { k += 3; if (k == 13) { x = 1; } } return x * y;"):
            pass
        for _ in self.check("while (k++ < 6) { if (k == 2) { while (x++ < 9) { y = -z; } } else { while (y++ < 3) { z = 7; } } } return x;"):
            pass

    def test_nothing_is_left_behind_a_second_time(self):
        program = main("while (k++ < 6) { while (x++ < 9) { y = -z; } x = k; }")
        code = improved(program, rows_of(program), "lift")[0]
        self.assertEqual(improved(program, code, "lift"), (code, []))


class Steps(unittest.TestCase):
    def check(self, program, words, inputs):
        """Check each pass of a row of passes; return what was done."""
        calm = first_conflict(program, inputs)
        result = run(program, inputs)
        code = rows_of(program)
        _, first_done = code_run(code, inputs)
        found = {}
        for word in words:
            before = code
            code, steps = improved(program, before, word)
            self.assertEqual(steps, sorted(set(steps)))
            table = {routine[0]: routine[3] for routine in before[1]}
            for name, row, what in steps:
                self.assertIn(what, WHATS[word])
                self.assertTrue(0 <= row < len(table[name]))
                if what != "unreached":
                    self.assertIn(table[name][row][0], SORTS[what])
                found[what] = found.get(what, 0) + 1
            self.assertEqual(len({step[:2] for step in steps}), len(steps))
            self.check_form(program, before, code, word)
            self.assertEqual(bool(steps), bool(left_by(program, before, word)))
            self.assertEqual(left_by(program, code, word), [])
            self.assertEqual(improved(program, code, word), (code, []))
            if calm is None and result[0] != ("going",):
                self.check_run(code, inputs, result, first_done)
        return found

    def check_form(self, program, before, code, word):
        self.assertEqual(wrong_rows(code, node_many(program)), [])
        self.assertEqual(code[0], before[0])
        self.assertEqual([routine[:3] for routine in code[1]], [routine[:3] for routine in before[1]])
        self.assertEqual(many_rows(code, "spill"), [0] * len(code[1]))
        for routine, old in zip(code[1], before[1]):
            if word != "lift":
                self.assertLessEqual(len(routine[3]), len(old[3]))
            told = {temporary for row in routine[3] for temporary in written(row)}
            self.assertTrue(all(temporary in told for row in routine[3] for temporary in reads(row)))
        self.assertEqual(code_in(code_text(code)), code)

    def check_run(self, code, inputs, result, first_done):
        found, done = code_run(code, inputs)
        if result[0][0] == "ended":
            self.assertEqual(found, result)
            self.assertLessEqual(done, first_done)
        else:
            self.assertEqual(found[0][0], "stopped")
            self.assertIn(found[0][1:], result[0][1])
            self.assertEqual(found[1], result[1][:len(found[1])])

    def test_programs_by_chance(self):
        found = {}
        for seed in range(160):
            chance = random.Random(seed)
            program = made(seed if seed % 2 else 3 * seed + 2, level=3)
            if node_many(program) > 150:
                continue
            words = PASSES + PASSES if seed % 3 == 0 else [chance.choice(PASSES) for _ in range(6)]
            for what, many in self.check(program, words, [chance.choice((3, 0, 1)), -1]).items():
                found[what] = found.get(what, 0) + many
        self.assertEqual(len(found), 8)
        self.assertGreater(min(found.values()), 1)

    def test_no_more_rows_than_rows_of(self):
        ended = stuck = 0
        for seed in range(400):
            chance = random.Random(seed)
            program = made(seed)
            inputs = [chance.choice((3, 0, 1)), -1]
            result = run(program, inputs)
            if result[0] == ("going",) or first_conflict(program, inputs) is not None:
                continue
            words = PASSES if seed % 2 else [chance.choice(PASSES) for _ in range(8)]
            code = optimized(program, words)
            self.check_run(code, inputs, result, code_run(rows_of(program), inputs)[1])
            ended += result[0][0] == "ended"
            stuck += result[0][0] == "stuck"
            if result[0][0] == "ended":
                self.assertEqual(code_run(fitted(code, chance.randint(3, 8)), inputs, most=200000)[0], result)
        self.assertGreater(ended, 150)
        self.assertGreater(stuck, 30)

    def test_optimized_is_the_passes_one_after_another(self):
        for seed in range(40):
            program = made(seed)
            for words in (PASSES, ["drop", "fold", "drop"], ["lift", "lift"], ()):
                code = rows_of(program)
                for word in words:
                    code = improved(program, code, word)[0]
                self.assertEqual(optimized(program, words), code)
            self.assertEqual(optimized(program), optimized(program, PASSES))

    def test_lists_and_names(self):
        for program in ALL:
            code = rows_of(program)
            kept, told = listed(program), listed(code)
            for word in PASSES:
                found = improved(program, code, word)
                self.assertEqual(improved(program=kept, code=told, word=word), found)
                self.assertTrue(only_tuples(improved(kept, told, word)[0]))
                self.assertIsInstance(found[1], list)
                self.assertTrue(all(isinstance(step, tuple) for step in found[1]))
            self.assertEqual(optimized(program=kept, words=list(PASSES)), optimized(program))
            self.assertEqual((kept, told), (listed(program), listed(code)))


if __name__ == "__main__":
    unittest.main()
