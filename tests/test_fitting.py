"""[18]: code that is made to do with few registers."""

import random
import unittest

from openorder.code import compiled, rows_of
from openorder.codemachine import code_run
from openorder.fitting import fitted
from openorder.nodes import node_many
from openorder.optimizer import PASSES, optimized
from openorder.reader import read
from tests.codes import many_rows, temporaries, wrong_rows
from tests.programs import ALL, listed, only_tuples
from tests.test_code import made


class Fitted(unittest.TestCase):
    def check(self, code, inputs, nodes, registers):
        """Check fitted code against the code that it is made of; return it."""
        result, _ = code_run(code, inputs)
        found = fitted(code, registers)
        self.assertEqual(wrong_rows(found, nodes), [])
        self.assertEqual(found[0], code[0])
        self.assertEqual([routine[:3] for routine in found[1]], [routine[:3] for routine in code[1]])
        for routine in found[1]:
            self.assertTrue(all(temporary < registers for temporary in temporaries(routine)))
        if result[0] != ("going",):
            self.assertEqual(code_run(found, inputs, most=200000)[0], result)
        self.assertEqual(fitted(code, registers), found)
        return found

    def test_programs_by_chance(self):
        for seed in range(150):
            program = made(seed)
            nodes = node_many(program)
            chance = random.Random(seed)
            code = rows_of(program)
            if seed % 2:
                code = optimized(program, [chance.choice(PASSES) for _ in range(4)])
            inputs = [chance.choice((3, 0, 1)), -1]
            for registers in range(3, 9):
                found = self.check(code, inputs, nodes, registers)
                self.check(found, inputs, nodes, 3)
                self.check(compiled(program, 8), inputs, nodes, registers)

    def test_code_that_fits_already_stays(self):
        for program in ALL:
            for registers in range(3, 9):
                self.assertEqual(fitted(compiled(program, 3), registers), compiled(program, 3))

    def test_many_values_at_once(self):
        chain = " + ".join("(x" for _ in range(12)) + ")" * 12
        program = read("int x = 1; fun main() { int t = 7; while (x < 40) { x = " + chain + " + t; t += x * 2; } "
                       "print(t); return x; }")
        code = rows_of(program)
        for registers in range(3, 9):
            found = self.check(code, [], node_many(program), registers)
            self.assertGreater(sum(many_rows(found, "spill")), 0)
        self.assertEqual(sum(many_rows(fitted(code, 3), "spill")) > sum(many_rows(fitted(code, 8), "spill")), True)

    def test_values_that_come_on_two_ways_and_around_loops(self):
        program = read("int x = 3; int a[2]; ref p = &a[1]; fun f(int m, int n) { return m - n; } fun main(int k) { "
                       "while (k++ < 4 && (x || k)) { x = f(k ? x + 1 : 9 - k, a[k ~ 2] + (x < k || f(x, k))) "
                       "+ (k ? x : *p) * (x && k ? 2 : 3); *p = x; } return x; }")
        for k in range(-2, 5):
            for registers in range(3, 9):
                for code in (rows_of(program), optimized(program), optimized(program, ["lift", "carry", "share"])):
                    self.check(code, [k], node_many(program), registers)

    def test_slots_that_are_there_stay(self):
        program = read("int x = 1; fun f() { return x; } fun main() { return (x +# f()) +# ((x +# f()) +# (x + x)); }")
        code = compiled(program, 8)
        self.assertEqual(many_rows(code, "spill"), [0, 3])
        self.assertEqual(code_run(self.check(code, [], node_many(program), 3), [])[0], code_run(code, [])[0])

    def test_lists_and_names(self):
        code = rows_of(ALL[-1])
        kept = listed(code)
        self.assertEqual(fitted(code=kept, registers=3), fitted(code, 3))
        self.assertEqual(kept, listed(code))
        self.assertTrue(only_tuples(fitted(kept, 3)) and only_tuples(fitted(kept, 8)))
        self.assertEqual(fitted(code, 3), fitted(tuple(code), 3))


if __name__ == "__main__":
    unittest.main()
