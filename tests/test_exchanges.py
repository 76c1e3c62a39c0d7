"""[13]: runs turned into others by exchanges."""

import random
import unittest

from openorder.errors import Bound, Conflicted, Last, NoTurn, OtherInputs, Unlike
from openorder.exchanges import apart, between, exchanged, turned_about
from openorder.machine import choices_of, run, turns
from openorder.reader import read
from openorder.sequence import must_before
from openorder.nodes import node_at, top_at
from openorder.watcher import accesses, first_conflict, is_calm
from tests.maker import Clasher, Maker
from tests.programs import CALLS, CALM, CLASH, DEMO, PAIR, TWICE, TWO, listed
from tests.runs import all_runs, chains_of, first_node, meetings, told_choices

NESTED = read("int x = 0; int y = 0; fun e(int n) { return n + y; } fun f(int n) { return e(n) * e(1); } "
              "fun main(int k) { x = f(k) + f(2); return x - y; }")


def main(body, head="int x = 0; int y = 0; int a[3]; "):
    return read(head + "fun main() { " + body + " }")


def pieces_of(program, done):
    """Return the pairs (first, end) of the pieces of the turns, by their depths."""
    found = []
    for at, (depth, _, kind) in enumerate(done):
        end = at + 1
        while kind == "call" and end < len(done) and done[end][0] > depth:
            end += 1
        found.append((at, end))
    return found


def exchanged_by_hand(program, inputs, choices, at):
    """Return what exchanged returns or the name of the error, by chains of the turns."""
    done = turns(program, inputs, choices)
    if not 0 <= at < len(done):
        return "NoTurn"
    chains = chains_of(program, done)
    pieces = pieces_of(program, done)
    behind = pieces[at][1]
    if behind == len(done) or chains[behind][-1][0] != chains[at][-1][0]:
        return "Last"
    top = top_at(program, done[at][1])
    first = first_node(program, top)
    items = [(done[turn][1] - first, done[turn][2]) for turn in (at, behind)]
    if must_before(node_at(program, top), *items):
        return "Bound"
    end = pieces[behind][1]
    some = done[:at] + done[behind:end] + done[at:behind] + done[end:]
    for many in range(len(some), -1, -1):
        try:
            return choices_of(program, inputs, some[:many])
        except LookupError:
            pass


def answer(asked, *arguments):
    """Return what is returned, or the name of the error."""
    try:
        return asked(*arguments)
    except (NoTurn, Last, Bound) as error:
        assert error.at == arguments[-1]
        return type(error).__name__


class Examples(unittest.TestCase):
    def test_examples(self):
        self.assertEqual([exchanged(CALM, [7], [], 2), apart(CALM, [7], [], [0, 0, 1]), between(CALM, [7], [], [0, 0, 1])],
                         [[0, 0, 1], 1, [2]])
        self.assertEqual([turned_about(CALM, [7], []), turned_about(CLASH, [5], [])], [None, [1, 1, 1]])
        with self.assertRaises(Bound) as caught:
            exchanged(CALM, [7], [], 0)
        self.assertEqual(caught.exception.at, 0)
        with self.assertRaises(Last) as caught:
            exchanged(CALM, [7], [], 5)
        self.assertEqual(caught.exception.at, 5)


class Exchanged(unittest.TestCase):
    def test_turns(self):
        program = main("x + y;")
        self.assertEqual(exchanged(program, [], [], 0), [1])
        self.assertEqual(exchanged(program, [], [1], 0), [])
        self.assertEqual(exchanged(PAIR, [], [], 1), [0, 1])
        self.assertEqual(exchanged(PAIR, [], [0, 1], 2), [0, 1, 1])

    def test_calls_with_all_their_turns(self):
        done = turns(NESTED, [3])
        first, second = [at for at, turn in enumerate(done) if turn[0] == 0 and turn[2] == "call"]
        found = turns(NESTED, [3], exchanged(NESTED, [3], [], first))
        self.assertEqual(found, done[:first] + done[second:2 * second - first] + done[first:second]
                         + done[2 * second - first:])
        inner = [at for at, turn in enumerate(done) if turn[0] == 1 and turn[2] == "call"]
        found = turns(NESTED, [3], exchanged(NESTED, [3], [], inner[0]))
        self.assertEqual(found[:inner[0] + 1], done[:inner[0]] + [done[inner[1]]])
        self.assertEqual(sorted(found), sorted(done))

    def test_a_turn_and_a_call(self):
        text = "int x = 0; int y = 0; fun f() { return y; } fun main() { x + f(); }"
        self.assertEqual(exchanged(read(text), [], [], 0), [1])
        self.assertEqual(exchanged(read(text), [], [1], 0), [])

    def test_the_last_piece(self):
        for program, inputs, at in ((CALM, [7], 5), (CALM, [7], 9), (CALLS, [], 11), (CALLS, [], 3), (CALLS, [], 4),
                                    (main("x; y;"), [], 0), (main("x; y;"), [], 1)):
            with self.subTest(at=at):
                with self.assertRaises(Last) as caught:
                    exchanged(program, inputs, [], at)
                self.assertEqual(caught.exception.at, at)

    def test_the_last_piece_of_a_run_that_is_cut(self):
        self.assertEqual(exchanged(PAIR, [], [], 1, most=3), [0, 1])
        with self.assertRaises(Last):
            exchanged(PAIR, [], [], 1, most=2)
        with self.assertRaises(Last):
            exchanged(CALLS, [], [], 0, most=5)
        self.assertEqual(exchanged(CALLS, [], [], 0, most=7), [1])

    def test_bound_pieces(self):
        for body, at in (("-x;", 0), ("x++;", 0), ("x +# y;", 0), ("x && y;", 0), ("x, y;", 0), ("a[x];", 0)):
            with self.subTest(body=body):
                with self.assertRaises(Bound) as caught:
                    exchanged(main(body.replace("x &&", "!x &&")), [], [], at)
                self.assertEqual(caught.exception.at, at)

    def test_places_without_a_turn(self):
        many = len(turns(CALM, [7]))
        for at in (many, many + 1, 99999, -1, -many):
            with self.assertRaises(NoTurn) as caught:
                exchanged(CALM, [7], [], at)
            self.assertEqual(caught.exception.at, at)
        with self.assertRaises(NoTurn):
            exchanged(read("fun main() { }"), [], [], 0)
        with self.assertRaises(NoTurn):
            exchanged(CALM, [7], [], 3, most=3)

    def test_as_long_as_each_turn_is_possible(self):
        program = main("(x = 1) + (x ? y : 2);")
        done = turns(program, [])
        self.assertEqual(done[:4], [(0, 1, "step"), (0, 1, "write"), (0, 2, "step"), (0, 3, "step")])
        self.assertEqual(exchanged(program, [], [], 1), [0, 1])
        text = "int x = 0; fun f() { if (x) { x = 5; } return 7; } fun main() { (x = 1) + f(); }"
        self.assertEqual(exchanged(read(text), [], [], 1), [0, 1])

    def test_by_chance(self):
        told = {}
        for seed in range(150):
            chance = random.Random(seed)
            maker = Maker if seed % 3 == 0 else Clasher
            program = maker(seed).program(chance.randint(1, 3), statements=2, level=3)
            choices = [chance.choice((0, 0, 1, 2)) for _ in range(30)]
            many = len(turns(program, [1, 0], choices))
            if many > 60:
                continue
            for at in range(-1, many + 1):
                expected = exchanged_by_hand(program, [1, 0], choices, at)
                word = expected if isinstance(expected, str) else "list"
                told[word] = told.get(word, 0) + 1
                self.assertEqual(answer(exchanged, program, [1, 0], choices, at), expected)
        self.assertGreater(min(told.values()), 50)
        self.assertEqual(len(told), 4)


class Apart(unittest.TestCase):
    def test_the_same_run(self):
        for program, inputs in ((CALM, [7]), (CALLS, []), (TWICE, [4]), (DEMO, [3]), (TWO, [])):
            self.assertEqual(apart(program, inputs, [], []), 0)
            self.assertEqual(apart(program, inputs, [1, 1], [1, 1]), 0)
            self.assertEqual(apart(program, inputs, [9, 1, 9], [9, 1, 9, 0, 0]), 0)
            self.assertEqual(between(program, inputs, [], []) if is_calm(program, inputs) else [], [])

    def test_both_ways(self):
        program = main("(x + y) * (x + y);")
        self.assertEqual(apart(program, [], [], [1]), 1)
        self.assertEqual(apart(program, [], [], [3, 2, 2]), 3 * 3 + 1)
        self.assertEqual(apart(program, [], [3, 2, 2], []), 3 * 3 + 1)
        done = [(0, node, "step") for node in (4, 3, 5, 1, 0, 2, 6)]
        self.assertEqual(apart(program, [], [], choices_of(program, [], done)), 3 * 3 + 2)
        self.assertEqual(apart(program, [], choices_of(program, [], done), []), 3 * 3 + 2)

    def test_calls_are_pieces(self):
        self.assertEqual(apart(CALLS, [], [], [1]), 1)
        text = "fun f(int n, int m) { return n + m; } fun main() { return f(1, 2) + f(3, 4); }"
        program = read(text)
        self.assertEqual(apart(program, [], [], [1]), 1)
        self.assertEqual(apart(program, [], [], [0, 1]), 1)
        self.assertEqual(apart(program, [], [], [1, 1]), 2)
        self.assertEqual(apart(program, [], [0, 1, 0, 0, 0, 1], [1, 1]), 2)
        self.assertEqual(apart(program, [], [0, 0, 0, 0, 0, 1], [1, 1]), 1)

    def test_evaluations_are_counted_with_turns_only(self):
        text = "int x = 0; fun main() { while (x < 2) { 7; x = x + 1; } }"
        program = read(text)
        self.assertEqual(apart(program, [], [], []), 0)
        text = "int x = 0; fun main() { if ((x = 1) * 0 + x) { 7; } else { 8; 9; } x + x; }"
        self.assertEqual(apart(read(text), [], [], [1, 1, 1]), 4)
        self.assertEqual(apart(read(text), [], [1, 1, 1], []), 4)

    def test_unlike(self):
        program = main("(x = 1) + (x ? y : 2); y;")
        first, second = turns(program, []), turns(program, [], [0, 1])
        self.assertEqual(len(first), len(second) + 1)
        for asked in (apart, between):
            with self.assertRaises(Unlike) as caught:
                asked(program, [], [], [0, 1])
            self.assertEqual(caught.exception.at, 3)
            with self.assertRaises(Unlike) as caught:
                asked(program, [], [0, 1], [])
            self.assertEqual(caught.exception.at, len(second))

    def test_unlike_behind_likes(self):
        text = "int x = 0; fun f(int n) { if (n) { print(1); } } fun main() { f((x = 1) * 0 + x); print(x); }"
        program = read(text)
        first, second = turns(program, []), turns(program, [], [0, 1, 1])
        self.assertEqual((len(first), len(second)), (len(second) + 1, len(first) - 1))
        with self.assertRaises(Unlike) as caught:
            apart(program, [], [], [0, 1, 1])
        self.assertEqual(caught.exception.at, first.index((1, 2, "step")))
        with self.assertRaises(Unlike) as caught:
            apart(program, [], [0, 1, 1], [])
        self.assertEqual(caught.exception.at, len(second))

    def test_turns_in_calls_that_are_not_like(self):
        text = ("int x = 0; fun f() { return x; } fun main() { (x = 1) * 0 + (x ? f() : 3 + f()); }")
        program = read(text)
        self.assertEqual([turn for turn in turns(program, []) if turn[0] == 1],
                         [turn for turn in turns(program, [], [0, 2]) if turn[0] == 1])
        with self.assertRaises(Unlike) as caught:
            apart(program, [], [], [0, 2])
        self.assertEqual(caught.exception.at, 4)
        self.assertEqual(turns(program, [])[4], (0, 6, "call"))

    def test_runs_that_are_cut(self):
        self.assertEqual(apart(PAIR, [], [], [0, 1], most=3), 1)
        with self.assertRaises(Unlike) as caught:
            apart(PAIR, [], [], [0, 1], most=2)
        self.assertEqual(caught.exception.at, 1)
        self.assertEqual(between(PAIR, [], [], [0, 1], most=3), [1])

    def test_all_pairs_of_runs_of_small_programs(self):
        for program, inputs in ((CALM, [7]), (PAIR, []), (main("x + y + 1; x = y++;"), []), (CLASH, [4])):
            runs = all_runs(program, inputs, 200)
            for one in runs:
                for other in runs:
                    far = apart(program, inputs, one, other)
                    self.assertEqual(far, apart(program, inputs, other, one))
                    self.assertEqual(far == 0, one == other)


class Between(unittest.TestCase):
    def check(self, program, inputs, one, other):
        """Check that the exchanges lead from one run to the other."""
        found = between(program, inputs, one, other)
        self.assertEqual(len(found), apart(program, inputs, one, other))
        choices = one
        for at in found:
            before = choices
            choices = exchanged(program, inputs, choices, at)
            self.assertEqual(apart(program, inputs, before, choices), 1)
        self.assertEqual(turns(program, inputs, choices), turns(program, inputs, other))
        return len(found)

    def test_small_programs(self):
        self.assertEqual(self.check(CALM, [7], [0, 0, 1], []), 1)
        self.assertEqual(self.check(PAIR, [], [], [0, 1, 1]), 2)
        for choices in ([1], [5] * 20, [0, 1, 0, 1, 1], [1, 0, 0, 1] * 9):
            self.check(NESTED, [3], [], choices)
            self.check(NESTED, [3], choices, [])
            self.check(TWICE, [4], choices, [2, 1] * 9)
        self.assertGreater(self.check(NESTED, [3], [], [9] * 60), 4)

    def test_by_chance(self):
        exchanges = 0
        for seed in range(250):
            chance = random.Random(seed)
            maker = Maker if seed % 2 == 0 else Clasher
            program = maker(seed).program(chance.randint(1, 3), statements=2, level=3)
            if is_calm(program, [1, 0]) and len(turns(program, [1, 0])) < 60:
                one, other = [[chance.choice((0, 1, 2, 3)) for _ in range(40)] for _ in range(2)]
                exchanges += self.check(program, [1, 0], one, other)
        self.assertGreater(exchanges, 300)

    def test_errors(self):
        with self.assertRaises(Conflicted) as caught:
            between(TWO, [], [], [0, 1])
        self.assertEqual(caught.exception.conflict, first_conflict(TWO, []))
        with self.assertRaises(Conflicted) as caught:
            between(TWO, [], [0, 1], [])
        self.assertEqual(caught.exception.conflict, first_conflict(TWO, [], [0, 1]))
        program = main("(x = 1) + (x ? y : 2); y;")
        with self.assertRaises(Unlike):
            between(program, [], [], [0, 1])
        with self.assertRaises(Conflicted):
            between(program, [], [], [])


class TurnedAbout(unittest.TestCase):
    def check(self, program, inputs, choices):
        """Check that other comes while one has not come yet, behind what was ahead of one."""
        done = turns(program, inputs, choices)
        found = turned_about(program, inputs, choices)
        told = meetings(program, inputs, choices)
        if not told:
            self.assertIsNone(found)
            return False
        later, earlier, conflict = min(told, key=lambda each: (each[0], -each[1]))
        self.assertEqual(conflict, first_conflict(program, inputs, choices))
        chains = chains_of(program, done)
        level = 0
        while chains[earlier][level] == chains[later][level]:
            level += 1
        home, one = chains[earlier][level]
        other = chains[later][level][1]
        # the turns of the pieces: those whose chains lead through these ITEMs of this evaluation
        own = [at for at, chain in enumerate(chains) if len(chain) > level and chain[level] == (home, one)]
        own_later = [at for at, chain in enumerate(chains) if len(chain) > level and chain[level] == (home, other)]
        top = top_at(program, one[0])
        first = first_node(program, top)
        needed = []
        for at in range(own[-1] + 1, own_later[0]):
            item = chains[at][level][1]
            if must_before(node_at(program, top), (item[0] - first, item[1]), (other[0] - first, other[1])):
                needed.append(at)
        some = [done[at] for at in list(range(own[0])) + needed + own_later]
        made = turns(program, inputs, found)
        many = max(many for many in range(len(some) + 1) if made[:many] == some[:many])
        self.assertGreater(many, own[0] + len(needed))
        self.assertEqual(found, choices_of(program, inputs, some[:many]))
        self.assertNotIn(done[own[0]], made[own[0]:own[0] + len(needed) + 1])
        if run(program, inputs, found)[0] != ("going",):
            self.assertIsNotNone(first_conflict(program, inputs, found))
        return True

    def test_small_programs(self):
        self.assertEqual(turned_about(TWO, [], []), [0, 1])
        self.assertEqual(turned_about(TWO, [], [0, 1]), [])
        self.assertEqual(turned_about(CALLS, [], []), [1])
        for program, inputs in ((TWO, []), (CLASH, [5]), (CALLS, []), (DEMO, [2]), (TWICE, [0])):
            for choices in ([], [1], [1, 1], [0, 1], [2, 1, 0, 1], [9] * 9):
                self.check(program, inputs, choices)

    def test_without_a_conflict(self):
        for choices in ([], [0, 0, 1], [9] * 9):
            self.assertIsNone(turned_about(CALM, [7], choices))
            self.assertIsNone(turned_about(NESTED, [7], choices))
        self.assertIsNone(turned_about(TWO, [], [], most=2))
        self.assertEqual(turned_about(TWO, [], [], most=3), [0, 1])

    def test_pieces_between(self):
        program = main("x++ + (y + 1 + x * (x = y + 2));")
        self.assertTrue(self.check(program, [], []))
        program = main("x + (y + (x = (y + 1) * a[y]));")
        self.assertTrue(self.check(program, [], []))
        self.assertEqual(turns(program, [], turned_about(program, [], []))[:7],
                         [(0, node, "step") for node in (2, 4, 5, 6, 7, 8)] + [(0, 8, "write")])

    def test_through_calls(self):
        text = ("int x = 0; int y = 0; fun e(int n) { x = n; return n; } fun f(int n) { y = y + 1; return e(n) + 1; } "
                "fun main() { f(1) + y++ * f(x); }")
        self.assertTrue(self.check(read(text), [], []))
        self.assertEqual(turned_about(read(text), [], []), [1])
        self.assertEqual(turns(read(text), [], [1])[0], (0, 13, "step"))
        self.assertTrue(self.check(read(text), [], [1]))
        self.assertTrue(self.check(read(text), [], [1, 1]))

    def test_turns_that_come_no_more(self):
        text = "int x = 0; fun f() { if (x) { x = 5; } return x; } fun main() { (x = 1) + f(); }"
        program = read(text)
        self.assertTrue(self.check(program, [], []))
        self.assertEqual(turned_about(program, [], []), [0, 1])

    def test_by_chance(self):
        met = 0
        for seed in range(200):
            chance = random.Random(seed)
            program = Clasher(seed).program(chance.randint(1, 3), statements=2, level=3)
            choices = [chance.choice((0, 0, 1, 2)) for _ in range(30)]
            if len(turns(program, [1, 0], choices)) < 60:
                met += self.check(program, [1, 0], choices)
        self.assertGreater(met, 30)


class Arguments(unittest.TestCase):
    def test_other_inputs(self):
        for asked in (lambda: exchanged(CALM, [], [], 99), lambda: apart(CALM, [], [], [1]),
                      lambda: between(CALM, [], [], [1]), lambda: turned_about(CALM, [], [])):
            with self.assertRaises(OtherInputs) as caught:
                asked()
            self.assertEqual(caught.exception.many, 1)

    def test_lists_tuples_and_names(self):
        program = listed(CALM)
        self.assertEqual(exchanged(program=program, inputs=(7,), choices=(), at=2, most=99), [0, 0, 1])
        self.assertEqual(apart(program=program, inputs=(7,), one=(), other=(0, 0, 1), most=99), 1)
        self.assertEqual(between(program=program, inputs=(7,), one=(), other=(0, 0, 1), most=99), [2])
        self.assertEqual(turned_about(program=listed(CLASH), inputs=(5,), choices=(), most=99), [1, 1, 1])
        self.assertEqual(program, listed(CALM))
        for asked in (lambda: exchanged(CALM, [7], [], 2, 99), lambda: apart(CALM, [7], [], [], 99),
                      lambda: between(CALM, [7], [], [], 99), lambda: turned_about(CALM, [7], [], 99)):
            with self.assertRaises(TypeError):
                asked()

    def test_accesses_are_watched_the_same(self):
        self.assertEqual(sorted(access[1:] for access in accesses(CALM, [7], exchanged(CALM, [7], [], 2))),
                         sorted(access[1:] for access in accesses(CALM, [7])))
        self.assertEqual(told_choices(CALM, [7], [0, 0, 9, 0]), [0, 0, 1])


if __name__ == "__main__":
    unittest.main()
