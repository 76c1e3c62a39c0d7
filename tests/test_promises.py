"""[1]: what the document promises over all runs of a program, tried on small programs."""

import random
import unittest

from openorder.checker import is_let_by
from openorder.code import compiled, rows_of
from openorder.codemachine import code_choices, code_run
from openorder.codetexts import code_in, code_text
from openorder.desk import answers
from openorder.exchanges import apart, between, exchanged, turned_about
from openorder.explorer import ends, runs_many
from openorder.errors import TooMany
from openorder.fitting import fitted
from openorder.machine import run, turns
from openorder.mending import first_mend, marks_needed, mended
from openorder.optimizer import PASSES, optimized
from openorder.reader import program_text
from openorder.watcher import accesses, conflicts, first_conflict, is_calm
from openorder.workshop import Workshop
from tests.maker import Clasher, Maker
from tests.programs import CALLS, CALM, CLASH, DEMO, PAIR, TWICE, TWO
from tests.runs import all_runs

INPUTS = [1, 0]
EXAMPLES = ((DEMO, [2]), (CALM, [7]), (CLASH, [5]), (TWO, []), (PAIR, []), (CALLS, []))


def small_programs(many, most_runs):
    """Return the triples (program, inputs, runs) of programs that have some runs, but few."""
    found = [(program, inputs, all_runs(program, inputs, 400)) for program, inputs in EXAMPLES]
    for seed in range(10 * many):
        chance = random.Random(seed)
        maker = Maker if seed % 3 == 0 else Clasher
        program = maker(seed).program(chance.randint(1, 3), statements=chance.randint(1, 2), level=3)
        try:
            number = sum(told[1] for told in ends(program, INPUTS, most=60))
        except TooMany:
            continue
        if 2 < number <= most_runs and len(found) < many:
            runs = all_runs(program, INPUTS, most_runs)
            if runs is not None:
                found.append((program, INPUTS, runs))
    return found


class Promises(unittest.TestCase):
    @classmethod
    def setUpClass(cls):
        cls.programs = small_programs(100, 40)
        assert len(cls.programs) == 100

    def test_one_run_without_a_conflict_speaks_for_all(self):
        calm = 0
        for program, inputs, runs in self.programs:
            if any(is_calm(program, inputs, choices) for choices in runs):
                calm += 1
                self.assertEqual(len({run(program, inputs, choices) for choices in runs}), 1)
                self.assertEqual(len({len(turns(program, inputs, choices)) for choices in runs}), 1)
                self.assertTrue(all(conflicts(program, inputs, choices) == [] for choices in runs))
                self.assertEqual(runs_many(program, inputs, runs[-1]), len(runs))
        self.assertGreater(calm, 30)

    def test_the_first_conflict_turned_about(self):
        met = 0
        for program, inputs, runs in self.programs:
            for choices in runs[::3]:
                conflict = first_conflict(program, inputs, choices)
                found = turned_about(program, inputs, choices)
                self.assertEqual(found is None, conflict is None)
                if conflict is None:
                    continue
                met += 1
                self.assertIsNotNone(first_conflict(program, inputs, found))
                self.assertNotEqual(turns(program, inputs, found), turns(program, inputs, choices))
        self.assertGreater(met, 80)

    def test_the_second_access_comes_while_the_first_one_has_not_come_yet(self):
        for program, inputs in ((TWO, []), (CLASH, [5]), (CALLS, [])):
            for choices in all_runs(program, inputs, 400):
                conflict = first_conflict(program, inputs, choices)
                if conflict is None:
                    continue
                place, one, other = conflict
                other_run = turned_about(program, inputs, choices)
                done = turns(program, inputs, other_run)
                ways = [(done[turn][1], sort) for turn, found, sort in accesses(program, inputs, other_run) if found == place]
                if len(one[0]) == 1:
                    self.assertLess(ways.index((other[0][0], other[1])), ways.index((one[0][0], one[1])))

    def test_runs_are_turned_into_each_other(self):
        for program, inputs, runs in self.programs:
            if not is_calm(program, inputs):
                continue
            chance = random.Random(len(runs))
            for _ in range(4):
                one, other = chance.choice(runs), chance.choice(runs)
                choices = one
                exchanges = between(program, inputs, one, other)
                self.assertEqual(len(exchanges), apart(program, inputs, one, other))
                for at in exchanges:
                    choices = exchanged(program, inputs, choices, at)
                self.assertEqual(turns(program, inputs, choices), turns(program, inputs, other))

    def test_fewest_exchanges(self):
        for program, inputs in ((CALM, [7]), (PAIR, [])):
            runs = all_runs(program, inputs, 100)
            done = {tuple(turns(program, inputs, choices)): choices for choices in runs}
            for start in runs:
                far = {tuple(turns(program, inputs, start)): 0}
                reached = [start]
                while reached:
                    choices = reached.pop(0)
                    here = tuple(turns(program, inputs, choices))
                    for at in range(len(here)):
                        try:
                            behind = exchanged(program, inputs, choices, at)
                        except RuntimeError:
                            continue
                        there = tuple(turns(program, inputs, behind))
                        if there not in far:
                            far[there] = far[here] + 1
                            reached.append(behind)
                self.assertEqual(set(far), set(done))
                for there, choices in done.items():
                    self.assertEqual(apart(program, inputs, start, choices), far[there])

    def test_programs_that_are_let_by_and_mended_ones(self):
        let_by = mended_many = 0
        for program, inputs, runs in self.programs:
            result = run(program, inputs)
            if is_let_by(program):
                let_by += 1
                self.assertTrue(all(conflicts(program, inputs, choices) == [] for choices in runs))
                self.assertEqual({run(program, inputs, choices) for choices in runs}, {result})
                self.assertEqual((marks_needed(program), first_mend(program)), (0, ()))
                continue
            mend = first_mend(program)
            form = mended(program, mend)
            self.assertEqual(len(mend), marks_needed(program))
            self.assertTrue(is_let_by(form))
            mended_many += 1
            for choices in all_runs(form, inputs, 400):
                self.assertEqual(conflicts(form, inputs, choices), [])
                if result[0][0] == "ended":
                    self.assertEqual(run(form, inputs, choices), result)
        self.assertGreater(min(let_by, mended_many), 15)

    def test_all_code_does_what_a_run_without_a_conflict_does(self):
        ended = stopped = 0
        for program, inputs, runs in self.programs:
            if first_conflict(program, inputs, runs[-1]) is not None:
                continue
            result = run(program, inputs, runs[-1])
            chance = random.Random(len(runs))
            words = [chance.choice(PASSES) for _ in range(4)]
            codes = [rows_of(program)] + [compiled(program, registers) for registers in range(3, 9)]
            shorter = [optimized(program), optimized(program, words)]
            codes += shorter + [fitted(code, 3) for code in shorter] + [code_in(code_text(code)) for code in shorter]
            for code in codes:
                found, done = code_run(code, inputs)
                if result[0][0] == "ended":
                    ended += 1
                    self.assertEqual(found, result)
                    self.assertLessEqual(done if code in shorter else 0, code_run(codes[0], inputs)[1])
                else:
                    stopped += 1
                    self.assertEqual((found[0][0], found[0][1:] in result[0][1]), ("stopped", True))
                    self.assertEqual(found[1], result[1][:len(found[1])])
            for registers in (3, 8):
                followed = code_choices(program, inputs, registers)
                self.assertEqual(run(program, inputs, followed)[1:], result[1:])
        self.assertGreater(min(ended, stopped), 20)

    def test_a_workshop_answers_as_a_new_one(self):
        for number, (program, inputs, runs) in enumerate(self.programs):
            shop = Workshop(self.programs[number - 1][0])
            names = shop.functions()
            deeds = [("lay", entry) for entry in program[0]]
            deeds += [("put" if function[0] not in names else "replace", function) for function in program[1]]
            for whole in (True, False):
                try:
                    shop.do(deeds + [("mend",), ("take", "nobody")], whole=whole)
                except (ValueError, LookupError):
                    self.assertEqual(whole and shop.deeds(), 0 if whole else False)
            self.check_workshop(shop)
            while shop.undo():
                self.check_workshop(shop)
            self.assertEqual(shop.program_now(), self.programs[number - 1][0])

    def check_workshop(self, shop):
        program = shop.program_now()
        fresh = Workshop(program)
        inputs = [1] * len(program[1][-1][1])
        self.assertEqual(shop, fresh)
        self.assertEqual(shop.run(inputs), run(program, inputs))
        self.assertEqual((shop.text(), shop.first_refused(), shop.code_for(5), repr(shop)),
                         (fresh.text(), fresh.first_refused(), fresh.code_for(5), repr(fresh)))
        self.assertEqual(answers(shop.text() + "\n\ncheck\nmend\ncheck\nshow")[2:],
                         ["yes", program_text(mended(program, first_mend(program))).replace("\n", " / ")])

    def test_an_example_with_many_runs(self):
        self.assertEqual(sum(told[1] for told in ends(TWICE, [4])), runs_many(TWICE, [4]))


if __name__ == "__main__":
    unittest.main()
