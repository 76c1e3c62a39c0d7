"""[17]: registers for an expression."""

import itertools
import random
import time
import unittest

from openorder.needs import best_plan, fewest_spills, need
from tests.maker import Clasher, Maker
from tests.programs import expression_of, listed

SUM3, MARKED, BOTH, MIXED = [expression_of(text) for text in ("a + (b + c)", "a +# (b + c)", "f(1) + g(2)", "x + f(1)")]


class Tree:
    """An expression as the document speaks of it: nodes, parts, calls, pair nodes, own numbers."""

    def __init__(self, expression):
        self.nodes = []
        self.add(expression)

    def add(self, e):
        word = e[0]
        lv_parts = []
        if word in ("set", "add", "inc"):
            lv_parts = {"var": [], "item": list(e[1][2:3]), "at": [e[1][1]]}[e[1][0]]
        parts = {"num": [], "var": [], "ref": [], "set": lv_parts + [e[-2]], "add": lv_parts + [e[-2]], "inc": lv_parts,
                 "op": list(e[2:4]), "and": list(e[1:]), "or": list(e[1:]), "comma": list(e[1:]), "cond": list(e[1:]),
                 "item": list(e[2:3]), "refitem": list(e[2:3])}.get(word)
        if parts is None:
            parts = list(e[2]) if word == "call" else [e[1]]
        below = [self.add(part) for part in parts]
        is_pair = word == "op" or word in ("set", "add") and bool(lv_parts)
        own = 3 if word in ("add", "inc") and lv_parts else 2 if word in ("add", "inc") or is_pair else 1
        self.nodes.append({"parts": below, "call": word == "call" or any(self.nodes[part]["call"] for part in below),
                           "pair": is_pair, "own": own, "marked": is_pair and e[-1] == 1})
        return len(self.nodes) - 1

    def plans(self):
        """Return all PLANs."""
        choices = []
        for number, node in enumerate(self.nodes):
            if node["pair"]:
                choices.append([(number, first, way) for first in ((0,) if node["marked"] else (0, 1))
                                for way in ("keep", "spill")
                                if way == "spill" or not self.nodes[node["parts"][1 - first]]["call"]])
        return [list(plan) for plan in itertools.product(*choices)]

    def registers(self, plan):
        told = {number: (first, way) for number, first, way in plan}
        found = []
        for number, node in enumerate(self.nodes):
            numbers = [node["own"]]
            for place, part in enumerate(node["parts"]):
                is_over = number in told and told[number][1] == "keep" and told[number][0] != place
                numbers.append(found[part] + is_over)
            found.append(max(numbers))
        return found[-1]


def spills(plan):
    return sum(way == "spill" for _, _, way in plan)


class Examples(unittest.TestCase):
    def test_examples(self):
        self.assertEqual([need(SUM3), need(MARKED), fewest_spills(BOTH, 8), best_plan(SUM3, 3), best_plan(MIXED, 3)],
                         [2, 3, 1, [(3, 0, "keep"), (4, 0, "keep")], [(3, 1, "keep")]])


class Needs(unittest.TestCase):
    def test_without_a_pair_node(self):
        for text, number in (("7", 1), ("x", 1), ("-x", 1), ("x = 1", 1), ("x = -y", 1), ("f(x, y, 1)", 1), ("x++", 2),
                             ("x += y", 2), ("(*p)++", 3), ("a[x]++", 3), ("x ? y : f(1)", 1), ("x, y", 1), ("f(x++)", 2),
                             ("x && y || f(1)", 1), ("print(*p)", 1), ("a[x]", 1), ("&a[x]", 1)):
            with self.subTest(text=text):
                expression = expression_of(text)
                self.assertEqual([need(expression), fewest_spills(expression, 3), best_plan(expression, 3)], [number, 0, []])

    def test_pair_nodes(self):
        for text, number, plan in (
                ("x + y", 2, [(2, 0, "keep")]), ("x +# y", 2, [(2, 0, "keep")]), ("a[x] = y", 2, [(2, 0, "keep")]),
                ("*p = y", 2, [(2, 0, "keep")]), ("*p += y", 3, [(2, 0, "keep")]), ("a[0] += y", 3, [(2, 0, "keep")]),
                ("x == y", 2, [(2, 0, "keep")]), ("f(1) + x", 2, [(3, 0, "keep")]), ("x + f()", 2, [(2, 1, "keep")]),
                ("a[f()] = f()", 2, [(2, 0, "spill")]), ("x +# f()", 2, [(2, 0, "spill")]), ("*p =# f()", 2, [(2, 0, "spill")]),
                ("a[x] = f()", 2, [(2, 1, "keep")]), ("-(x + y) - z", 2, [(2, 0, "keep"), (5, 0, "keep")])):
            with self.subTest(text=text):
                self.assertEqual([need(expression_of(text)), best_plan(expression_of(text), 3)], [number, plan])

    def test_spills_that_more_registers_save(self):
        def full(level):
            return ("var", "x") if level == 0 else ("op", "+", full(level - 1), full(level - 1), 0)
        self.assertEqual([need(full(level)) for level in range(5)], [1, 2, 3, 4, 5])
        self.assertEqual([fewest_spills(full(4), registers) for registers in (3, 4, 5, 6)], [3, 1, 0, 0])
        chain = ("var", "x")
        for _ in range(9):
            chain = ("op", "-", ("var", "y"), chain, 1)
        self.assertEqual(need(chain), 10)
        self.assertEqual([fewest_spills(chain, registers) for registers in (3, 4, 9, 10, 99)], [7, 6, 1, 0, 0])

    def check(self, expression):
        """Compare with all PLANs."""
        tree = Tree(expression)
        plans = tree.plans()
        told = [(tree.registers(plan), spills(plan), plan) for plan in plans]
        for registers in (3, 4, 5, 6, 7, 8, 9, 40):
            fitting = [each for each in told if each[0] <= registers]
            fewest = min(each[1] for each in fitting)
            self.assertEqual(fewest_spills(expression, registers), fewest)
            self.assertEqual(best_plan(expression, registers), min(each[2] for each in fitting if each[1] == fewest))
        fewest = min(each[1] for each in told)
        self.assertEqual(need(expression), min(each[0] for each in told if each[1] == fewest))
        return len(plans)

    def test_against_all_plans(self):
        many = 0
        for seed in range(400):
            chance = random.Random(seed)
            maker = (Maker if seed % 2 else Clasher)(seed)
            maker.program(functions=2, statements=1, level=1)
            expression = maker.int(chance.randint(2, 4))
            if sum(node["pair"] for node in Tree(expression).nodes) <= 5:
                many += self.check(expression) > 20
        self.assertGreater(many, 40)

    def test_against_all_plans_of_trees(self):
        for seed in range(60):
            chance = random.Random(seed)

            def tree(pairs):
                if pairs == 0:
                    return chance.choice([("var", "x"), ("num", 1), ("var", "y"), ("inc", ("var", "x"), 0),
                                          ("call", "f", (), 0)])
                left = chance.randrange(pairs)
                parts = tree(left), tree(pairs - 1 - left)
                word = chance.choice(("op", "op", "op", "set", "add"))
                mark = int(chance.random() < 0.3)
                if word == "op":
                    return ("op", "+", *parts, mark)
                return (word, ("item", "a", parts[0], 0), parts[1], mark)

            self.check(tree(5))

    def test_great_expressions_in_fair_time(self):
        start = time.process_time()
        for seed in range(20):
            chance = random.Random(seed)

            def grown(nodes, level):
                if nodes < 3 or level == 1:
                    return ("var", "x") if chance.random() < 0.8 else ("call", "f", (), 0)
                left = chance.randrange(1, nodes - 1)
                return ("op", "+", grown(left, level - 1), grown(nodes - 1 - left, level - 1), int(chance.random() < 0.2))

            expression = grown(30, 12)
            for registers in range(3, 9):
                plan = best_plan(expression, registers)
                self.assertEqual(spills(plan), fewest_spills(expression, registers))
                self.assertLessEqual(Tree(expression).registers(plan), registers)
            self.assertGreaterEqual(need(expression), 1)
        self.assertLess(time.process_time() - start, 60)


class Arguments(unittest.TestCase):
    def test_lists_and_names(self):
        for expression in (SUM3, MARKED, BOTH, MIXED):
            kept = listed(expression)
            self.assertEqual(fewest_spills(expression=kept, registers=3), fewest_spills(expression, 3))
            self.assertEqual(best_plan(expression=kept, registers=3), best_plan(expression, 3))
            self.assertEqual(need(expression=kept), need(expression))
            self.assertEqual(kept, listed(expression))
            self.assertTrue(all(isinstance(told, tuple) for told in best_plan(kept, 3)))


if __name__ == "__main__":
    unittest.main()
