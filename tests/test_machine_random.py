"""[8], [9] and [10]: many programs by chance, against plain recursion and against the order of ITEMs."""

import random
import unittest

from openorder.machine import choices_of, possible, run, turns
from openorder.nodes import node_at, parts_at, top_at
from openorder.sequence import items, must_before, ready, unsequenced
from tests.maker import Maker
from tests.plain import Blocked, Plain

INPUTS = [3, -1]


def chosen(seed):
    """Return CHOICES by chance."""
    chance = random.Random(seed)
    return [chance.choice((0, 0, 1, 2, 3, 9)) for _ in range(60)]


def first_node(program, node):
    """Return the first node in the expression of a node."""
    while parts_at(program, node):
        node = parts_at(program, node)[0]
    return node


def evaluations(program, done):
    """Return (top, first node, ITEMs in their order) for each evaluation, of programs of main alone
    without loops."""
    found = {}
    for depth, node, kind in done:
        top = top_at(program, node)
        first = first_node(program, top)
        found.setdefault(top, (top, first, []))[2].append((node - first, kind))
    return list(found.values())


class AgainstPlainRecursion(unittest.TestCase):
    def test_from_left_to_right(self):
        ends = {"ended": 0, "stuck": 0, "going": 0}
        for seed in range(700):
            program = Maker(seed).program(functions=3, statements=4, level=3)
            found = run(program, INPUTS)
            ends[found[0][0]] += 1
            if found[0][0] == "going":
                continue
            try:
                told = Plain(program, INPUTS).outcome
            except Blocked:
                told = None
            if found[0][0] == "ended":
                self.assertEqual(found, told)
            else:
                self.assertIsNone(told)
        self.assertGreater(min(ends["ended"], ends["stuck"]), 100)


class AgainstTheOrder(unittest.TestCase):
    def test_what_is_possible_is_what_is_ready(self):
        compared = 0
        for seed in range(150):
            program = Maker(seed, branches=False, calls=False).program(functions=1, statements=3, level=4)
            choices = chosen(seed)
            end = run(program, INPUTS, choices)[0][0]
            done = turns(program, INPUTS, choices)
            if "'while'" in str(program):
                continue
            for at in range(len(done)):
                offers = possible(program, INPUTS, choices[:at] if at < 60 else choices + [0] * (at - 60))
                top = top_at(program, offers[0][1])
                first = first_node(program, top)
                here = [(node - first, kind) for _, node, kind in done[:at] if top_at(program, node) == top]
                told = ready(node_at(program, top), here)
                found = [(node - first, kind) for _, node, kind in offers]
                compared += 1
                if end == "ended":
                    self.assertEqual(found, told)
                else:
                    self.assertLessEqual(set(found), set(told))
        self.assertGreater(compared, 500)

    def test_turns_keep_the_order(self):
        for seed in range(120):
            program = Maker(seed, calls=False).program(functions=1, statements=3, level=3)
            if "'while'" in str(program):
                continue
            done = turns(program, INPUTS, chosen(seed))
            for top, first, made in evaluations(program, done):
                expression = node_at(program, top)
                self.assertLessEqual(set(made), set(items(expression)))
                for at, one in enumerate(made):
                    for other in made[at + 1:]:
                        self.assertFalse(must_before(expression, other, one))

    def test_unsequenced_items_come_in_both_orders(self):
        for seed in range(60):
            maker = Maker(seed, branches=False, calls=False)
            program = maker.program(functions=1, statements=1, level=2)
            if program[1][0][2][0][0] != "do" or run(program, INPUTS)[0][0] != "ended":
                continue
            top = top_at(program, 0)
            pairs = set()
            for number in range(150):
                made = [turn[1:] for turn in turns(program, INPUTS, chosen(number))]
                pairs |= {(one, other) for at, one in enumerate(made) for other in made[at + 1:]}
            for one, other in unsequenced(node_at(program, top)):
                self.assertIn((one, other), pairs)
                self.assertIn((other, one), pairs)


class Consistency(unittest.TestCase):
    def test_turns_are_possible_and_lead_back_to_their_choices(self):
        for seed in range(120):
            program = Maker(seed).program(functions=3, statements=3, level=3)
            choices = chosen(seed)
            done = turns(program, INPUTS, choices, most=50)
            for at, turn in enumerate(done):
                offers = possible(program, INPUTS, choices[:at])
                self.assertEqual(offers, sorted(offers, key=lambda turn: (turn[1], turn[2])))
                self.assertEqual(turn, offers[min(choices[at], len(offers) - 1)])
            found = choices_of(program, INPUTS, done)
            self.assertEqual(turns(program, INPUTS, found, most=50), done)
            self.assertEqual(run(program, INPUTS, found, most=len(done) or 1),
                             run(program, INPUTS, choices, most=len(done) or 1))
            if len(done) < 50:
                self.assertEqual(possible(program, INPUTS, choices[:len(done)]), [])
                self.assertNotEqual(run(program, INPUTS, choices)[0], ("going",))


if __name__ == "__main__":
    unittest.main()
