"""[12]: all runs, how they end, where they part, how many there are."""

import random
import unittest

from openorder.errors import Conflicted, Cut, OtherInputs, TooMany
from openorder.explorer import ends, fork, runs_many
from openorder.machine import possible, run, turns
from openorder.reader import read
from openorder.watcher import first_conflict, is_calm
from tests.maker import Clasher, Maker
from tests.programs import CALLS, CALM, CLASH, DEMO, PAIR, TWICE, TWO, listed, only_tuples
from tests.runs import all_runs, told_choices
from tests.straight import Straight

LOOP = "while (1 < 2) { } "
STATES_1000 = "-x + (x + ((x + x) + (x + (-x + (x + x)))))"
SETS_4000 = "-x + (x + ((x + x) + (x + ((x + x) + (x + -(x + x))))))"
SETS_4001 = "--x + (-x + (x + ((x + x) + (x + (-x + (x + x))))))"


def main(body, head="int x = 0; int y = 0; int a[3]; "):
    return read(head + "fun main() { " + body + " }")


def ends_by_trying(program, inputs, most_runs=120):
    """Return what ends returns, trying all runs; None if there are too many."""
    choices = all_runs(program, inputs, most_runs)
    if choices is None:
        return None
    found = {}
    for each in choices:
        found.setdefault(run(program, inputs, each), []).append(told_choices(program, inputs, each))
    return sorted((result, len(told), min(told)) for result, told in found.items())


def fork_by_trying(program, inputs, most_runs=120):
    """Return what fork returns, trying all runs."""
    results = {}
    for choices in all_runs(program, inputs, most_runs):
        result = run(program, inputs, choices)
        for many in range(len(choices) + 1):
            results.setdefault(tuple(choices[:many]), set()).add(result)
    parting = []
    for front, told in results.items():
        if len(told) > 1:
            behind = [results[front + (place,)] for place in range(len(possible(program, inputs, front)))]
            if all(len(one) == 1 for one in behind):
                parting.append((list(front), tuple(list(one)[0] for one in behind)))
    return min(parting) if parting else None


class Examples(unittest.TestCase):
    def test_examples(self):
        self.assertEqual(ends(TWO, []), [((("ended", 0), (0,), (1,)), 6, [0, 1]), ((("ended", 0), (1,), (1,)), 1, [])])
        self.assertEqual(fork(TWO, []), ([0], ((("ended", 0), (1,), (1,)), (("ended", 0), (0,), (1,)))))
        self.assertEqual((ends(PAIR, []), runs_many(PAIR, [])), ([((("ended", 0), (), (1, 0)), 3, [])], 3))
        with self.assertRaises(Conflicted) as caught:
            runs_many(TWO, [])
        self.assertEqual(caught.exception.conflict, (("global", "x", 0), ((0,), "write"), ((1,), "read")))

    def test_the_other_programs(self):
        self.assertEqual(ends(CLASH, [5]), [((("ended", 0), (6,), (5,)), 9, []), ((("ended", 0), (10,), (5,)), 1, [1, 1, 1])])
        self.assertEqual(ends(CALM, [7]), [((("ended", 0), (16,), (9, 7)), 8, [])])
        self.assertEqual(ends(CALLS, []), [((("ended", 0), (3,), (1,)), 1, [1]), ((("ended", 0), (3,), (2,)), 1, [])])
        self.assertEqual(fork(CALLS, []), ([], ((("ended", 0), (3,), (2,)), (("ended", 0), (3,), (1,)))))
        self.assertIsNone(fork(CALM, [7]))
        self.assertEqual([runs_many(CALM, [7]), runs_many(TWICE, [4])], [8, 700])
        self.assertEqual(ends(TWICE, [4]), [((("ended", 0), (10,), (3, 4, ("x", 0))), 700, [])])


class Ends(unittest.TestCase):
    def test_runs_without_a_choice(self):
        self.assertEqual(ends(main(""), []), [((("ended", 0), (), (0, 0, (0, 0, 0))), 1, [])])
        self.assertEqual(ends(main("return -1;"), []), [((("ended", -1), (), (0, 0, (0, 0, 0))), 1, [])])
        self.assertIsNone(fork(main("x = 1; return x;"), []))

    def test_several_results(self):
        found = ends(main("print(x) + (x = 1) + print(2);"), [])
        self.assertEqual([result[1] for result, _, _ in found], [(0, 2), (1, 2), (2, 0), (2, 1)])
        self.assertEqual(found, ends_by_trying(main("print(x) + (x = 1) + print(2);"), []))

    def test_stuck_runs(self):
        found = ends(main("x / (x = 1) + a[5];"), [])
        self.assertEqual([told[0][0] for told in found], [("stuck", ((5, "index"),))])
        body = "(x = 1) + 1 / x;"
        self.assertEqual(ends(main(body), []), [
            ((("ended", 0), (), (1, 0, (0, 0, 0))), 1, []), ((("stuck", ((4, "nought"),)), (), (1, 0, (0, 0, 0))), 2, [0, 1])])
        self.assertEqual(fork(main(body), []), ([0], ((("ended", 0), (), (1, 0, (0, 0, 0))),
                                                      (("stuck", ((4, "nought"),)), (), (1, 0, (0, 0, 0))))))

    def test_stuck_in_calls(self):
        text = "int x = 0; fun f() { return 1 / x; } fun main() { f() + (x = 1) + f(); }"
        found = ends(read(text), [])
        self.assertEqual([told[0][0] for told in found],
                         [("ended", 0), ("stuck", ((2, "nought"),)), ("stuck", ((2, "nought"), (2, "nought")))])
        self.assertEqual(found, ends_by_trying(read(text), []))

    def test_runs_that_are_cut(self):
        values = (0, (0, 0, 0))
        self.assertEqual(ends(PAIR, [], most=2), [((("going",), (), (0, 0)), 1, [0, 1]), ((("going",), (), (1, 0)), 1, [])])
        self.assertEqual(ends(PAIR, [], most=1), [((("going",), (), (0, 0)), 1, [])])
        self.assertEqual(ends(PAIR, [], most=4), ends(PAIR, []))
        self.assertEqual(ends(PAIR, [], most=3), [((("going",), (), (0, 0)), 1, [0, 1, 1]),
                                                  ((("going",), (), (1, 0)), 2, [])])
        self.assertEqual(ends(main("while (1 < 2) { x++; }"), []), [((("going",), (), (66,) + values), 1, [])])
        self.assertEqual(ends(main("x++; x / 0;"), [], most=3)[0][0][0], ("stuck", ((3, "nought"),)))
        self.assertEqual(fork(PAIR, [], most=2), ([0], ((("going",), (), (1, 0)), (("going",), (), (0, 0)))))
        self.assertIsNone(fork(PAIR, [], most=1))

    def test_runs_of_several_lengths(self):
        body = "while ((x = 1) * x < 1) { print(3); return 4; }"
        self.assertEqual(ends(main(body), []), ends_by_trying(main(body), []))
        self.assertEqual([told[0][0] for told in ends(main(body), [])], [("ended", 0), ("ended", 4)])

    def test_against_trying_all_runs(self):
        compared = [0, 0]
        for seed in range(500):
            program = Clasher(seed).program(1 + seed % 2, statements=1 + seed % 3 // 2, level=3)
            try:
                found = ends(program, [1, 0])
            except TooMany:
                continue
            several = len(found) > 1
            if sum(told[1] for told in found) < (120 if several else 40) and (several or seed % 5 == 0):
                compared[several] += 1
                self.assertEqual(found, ends_by_trying(program, [1, 0]))
                self.assertEqual(fork(program, [1, 0]), fork_by_trying(program, [1, 0]))
        self.assertGreater(min(compared), 15)

    def test_many_runs_of_one_result(self):
        body = "x + (x + (x + (x + (x + x)))); " * 5
        found = ends(main(body), [])
        self.assertEqual([(told[1], told[2]) for told in found], [(runs_many(main(body), []), [])])
        # of 11 turns, each op comes last of those in its part: 11! / (11 * 9 * 7 * 5 * 3)
        self.assertEqual(found[0][1], 3840 ** 5)
        self.assertIsNone(fork(main(body), []))

    def test_the_choices_lead_there(self):
        for program, inputs in ((TWO, []), (CLASH, [3]), (CALLS, []), (DEMO, [2])):
            found = ends(program, inputs)
            for result, _, choices in found:
                self.assertEqual(run(program, inputs, choices), result)
            choices, results = fork(program, inputs)
            offers = possible(program, inputs, choices)
            self.assertEqual(len(results), len(offers))
            for place, result in enumerate(results):
                self.assertEqual(run(program, inputs, choices + [place]), result)
            self.assertEqual(sorted({told[0] for told in found} & set(results)), sorted(set(results)))


class States(unittest.TestCase):
    """How many STATEs there are, by the greatest most that ends takes."""

    def just(self, program, most, inputs=()):
        for asked in (ends, fork):
            asked(program, list(inputs), most=most)
            with self.assertRaises(TooMany) as caught:
                asked(program, list(inputs), most=most + 1)
            self.assertEqual(caught.exception.many, 1000)

    def test_one_run(self):
        self.just(main(LOOP), 999)
        self.just(main("while (x < 1) { }"), 999)
        with self.assertRaises(TooMany):
            ends(main(LOOP), [], most=2000)

    def test_exactly_as_many(self):
        self.assertEqual(len(ends(main(STATES_1000 + ";"), [])), 1)
        for body in ("-(" + STATES_1000 + ");", STATES_1000 + "; !1;", "!1; " + STATES_1000 + ";"):
            for asked in (ends, fork):
                with self.assertRaises(TooMany) as caught:
                    asked(main(body), [])
                self.assertEqual(caught.exception.many, 1000)

    def test_two_results(self):
        # 1 and then two for each turn but the first
        self.just(read("int x = 0; fun f(int n) { x = n; return n; } fun main() { f(1) + f(2); " + LOOP + "}"), 499)

    def test_numbers_of_bodies_make_no_difference(self):
        text = ("int x = 0; fun e() { } fun f(int n) { n = n + 1; } "
                "fun main() { (x = 1) + (x ? e() : !1); f(3); " + LOOP + "}")
        self.just(read(text), 11 + 1000 - 22)

    def test_old_locals_make_a_difference(self):
        one = "x = (x = 1) * 0 + x; x = 5; " + LOOP
        two = "if (1) { int t = (x = 1) * 0 + x; } x = 5; " + LOOP
        self.assertEqual(len(ends(main(one), [], most=700)), 1)
        self.assertEqual(len(ends(main(two), [], most=400)), 1)
        with self.assertRaises(TooMany):
            ends(main(two), [], most=700)

    def test_blocked_steps_of_blocked_calls_make_a_difference(self):
        text = ("int x = 0; int a[3]; fun f() { return x ? 1 / 0 : a[9]; } fun g() { " + LOOP + "} "
                "fun main() { (f() + (x = 1)) + g(); }")
        self.just(read(text), 143)

    def test_against_states_taken_literally(self):
        compared = 0
        for seed in range(1000):
            chance = random.Random(seed)
            program = Clasher(seed, branches=False, calls=False).program(1, statements=2, level=chance.randint(2, 3))
            body = program[1][0][2]
            found = ends_by_trying(program, [1, 0], 100)
            if found is None or found[-1][0][0] != ("ended", 0) or "return" in str(body):
                continue
            straight = Straight(program, [1, 0])
            number = sum(len(layer) for layer in straight.layers)
            self.assertEqual(len(straight.layers), 1 + len(turns(program, [1, 0])))
            if number < 4 or number > 1000:
                continue
            loop = ("while", ("op", "<", ("num", 1), ("num", 2), 0), ())
            longer = (program[0], (("main", program[1][0][1], body + (loop,)),))
            most = len(straight.layers) - 1 + (1000 - number) // straight.ends()
            compared += 1
            self.just(longer, most, (1, 0))
            if compared == 25:
                return
        self.fail("too few programs")


class RunsMany(unittest.TestCase):
    def test_small_programs(self):
        for body, many in (("", 1), ("x;", 1), ("x + y;", 2), ("x + y + x;", 8), ("y = x++;", 3),
                           ("x +# y;", 1), ("x && y;", 1), ("x + y; x + y;", 4), ("-x++ + y;", 11)):
            self.assertEqual(runs_many(main(body), []), many)
            self.assertEqual(len(all_runs(main(body), [], 2000)), many)

    def test_calls(self):
        text = "int x = 0; int y = 0; fun f(int n) { return x + n; } fun main() { y = f(1) + f(x + 2); }"
        self.assertEqual(runs_many(read(text), []), len(all_runs(read(text), [], 2000)))
        self.assertEqual(runs_many(read(text), []), 4 * 2 * 2)

    def test_rounds_of_a_loop(self):
        body = "while (x < 3) { x = x + 1; y = x++; }"
        self.assertEqual(runs_many(main(body), []), 9)
        self.assertEqual(runs_many(main("while (x < 100) { y = x++; }"), []), 3 ** 100)

    def test_stuck_runs(self):
        text = "int x = 0; int y = 0; fun f() { y = 1; return 1 / 0; } fun main() { f() + (x = 2) + x / 0; }"
        program = read(text.replace("x / 0", "y").replace("y = 1", "1"))
        self.assertEqual(run(program, [])[0][0], "stuck")
        self.assertEqual(runs_many(program, []), len(all_runs(program, [], 5000)))

    def test_by_any_run(self):
        for choices in ([], [1], [1, 1], [0, 1, 2], [9] * 9):
            self.assertEqual(runs_many(CALM, [7], choices), 8)
            self.assertEqual(runs_many(TWICE, [7], choices), 700)

    def test_against_trying_all_runs(self):
        compared = 0
        for seed in range(400):
            chance = random.Random(seed)
            maker = Maker if seed % 2 else Clasher
            program = maker(seed).program(chance.randint(1, 3), statements=2, level=chance.randint(1, 3))
            if not is_calm(program, [1, 0]):
                continue
            runs = all_runs(program, [1, 0], 120)
            if runs is not None:
                compared += len(runs) > 3
                self.assertEqual(runs_many(program, [1, 0]), len(runs))
                self.assertEqual(runs_many(program, [1, 0], chance.choice(runs)), len(runs))
        self.assertGreater(compared, 40)

    def test_sets(self):
        self.assertGreater(runs_many(main(SETS_4000 + ";"), []), 10 ** 9)
        self.assertEqual(runs_many(main((SETS_4000 + "; ") * 3), []), runs_many(main(SETS_4000 + ";"), []) ** 3)
        for body in (SETS_4001 + ";", "x; " + SETS_4001 + "; y;", "1 / 0 + (" + SETS_4001 + ");"):
            with self.assertRaises(TooMany) as caught:
                runs_many(main(body), [])
            self.assertEqual(caught.exception.many, 4000)
        self.assertGreater(runs_many(main("0 && (" + SETS_4001 + "); 1 ? x : (" + SETS_4001 + ");"), []), 0)

    def test_cut(self):
        many = len(turns(CALM, [7]))
        self.assertEqual(runs_many(CALM, [7], most=many), 8)
        with self.assertRaises(Cut) as caught:
            runs_many(CALM, [7], [0, 0, 1], most=many - 1)
        self.assertEqual(caught.exception.most, many - 1)
        with self.assertRaises(Cut) as caught:
            runs_many(main(LOOP), [])
        self.assertEqual(caught.exception.most, 2000)

    def test_conflicted(self):
        for choices in ([], [1], [0, 1]):
            with self.assertRaises(Conflicted) as caught:
                runs_many(TWO, [], choices)
            self.assertEqual(caught.exception.conflict, first_conflict(TWO, [], choices))

    def test_which_error_comes_first(self):
        with self.assertRaises(Cut):
            runs_many(main("x++ + x++; " + SETS_4001 + ";"), [], most=5)
        with self.assertRaises(Conflicted):
            runs_many(main(SETS_4001 + "; x++ + x++;"), [])
        with self.assertRaises(OtherInputs):
            runs_many(main("x++ + x++;"), [1], most=1)
        with self.assertRaises(OtherInputs):
            ends(main(LOOP), [1], most=2000)


class Arguments(unittest.TestCase):
    def test_other_inputs(self):
        for asked in (ends, fork, runs_many):
            with self.assertRaises(OtherInputs) as caught:
                asked(CALM, [1, 2])
            self.assertEqual(caught.exception.many, 1)

    def test_lists_tuples_and_names(self):
        for asked in (ends, fork):
            for program, inputs in ((TWICE, [0]), (CLASH, [3]), (CALLS, [])):
                kept = listed(program)
                found = asked(program=kept, inputs=tuple(inputs), most=200)
                self.assertEqual(found, asked(program, inputs))
                self.assertEqual(kept, listed(program))
            with self.assertRaises(TypeError):
                asked(CALM, [7], 5)
        self.assertTrue(all(isinstance(told, tuple) and only_tuples(told[0]) for told in ends(listed(TWICE), [0])))
        self.assertIsInstance(fork(listed(CLASH), [0])[0], list)
        self.assertEqual(runs_many(program=listed(CALM), inputs=(7,), choices=(0, 0, 1), most=50), 8)


if __name__ == "__main__":
    unittest.main()
