"""[10]: the order of the ITEMs of an expression."""

import unittest

from openorder.errors import Early
from openorder.sequence import is_fixed, items, must_before, ready, unsequenced
from tests.maker import Maker
from tests.programs import expression_of, listed

INC_PLUS = ("op", "+", ("inc", ("var", "x"), 0), ("var", "y"), 0)


class Literal:
    """The relation as the rules say it, pair by pair, and then chains."""

    def __init__(self, expression):
        self.count = 0
        self.pairs = set()
        self.apart = set()
        self.items = self.add(expression)
        grown = True
        while grown:
            chains = {(a, d) for a, b in self.pairs for c, d in self.pairs if b == c}
            grown = not chains <= self.pairs
            self.pairs |= chains

    def parts(self, e):
        if e[0] in ("num", "var", "ref"):
            return []
        if e[0] in ("set", "add", "inc"):
            lv = e[1]
            inner = {"var": [], "item": [lv[-2]], "at": [lv[1]]}[lv[0]]
            return inner + ([] if e[0] == "inc" else [e[2]])
        if e[0] == "call":
            return list(e[2])
        begin = 2 if e[0] in ("op", "item", "refitem") else 1
        end = len(e) if e[0] in ("and", "or", "comma", "cond") else len(e) - 1
        return list(e[begin:end])

    def add(self, e):
        below = [self.add(part) for part in self.parts(e)]
        node = self.count
        self.count += 1
        inside = [item for items_below in below for item in items_below]
        if e[0] in ("num", "ref"):
            return inside
        own = (node, "call" if e[0] == "call" else "step")
        self.pairs |= {(item, own) for item in inside if item[1] != "write"}
        if e[0] in ("and", "or", "cond", "comma"):
            self.pairs |= {(item, own) for item in below[0]}
            self.pairs |= {(item, later) for item in below[0] for rest in below[1:] for later in rest}
        if e[0] == "cond":
            self.apart |= {(a, b) for a in below[1] for b in below[2]}
        if e[0] == "call":
            self.pairs |= {(item, own) for item in inside}
        if e[0] not in ("num", "var", "ref", "and", "or", "cond", "comma") and e[-1] == 1:
            self.pairs |= {(item, own) for item in inside}
            self.pairs |= {(one, other) for at in range(len(below)) for one in below[at]
                           for rest in below[at + 1:] for other in rest}
        if e[0] not in ("set", "add", "inc"):
            return inside + [own]
        self.pairs.add((own, (node, "write")))
        return inside + [own, (node, "write")]

    def unsequenced(self):
        return sorted((one, other) for one in self.items for other in self.items
                      if one < other and (one, other) not in self.pairs and (other, one) not in self.pairs
                      and (one, other) not in self.apart and (other, one) not in self.apart)


def before(text, one, other):
    return must_before(expression_of(text), one, other)


class Sequence(unittest.TestCase):
    def test_examples(self):
        self.assertEqual(unsequenced(INC_PLUS), [((0, "step"), (1, "step")), ((0, "write"), (1, "step")),
                                                 ((0, "write"), (2, "step"))])
        self.assertEqual(ready(INC_PLUS, [(0, "step")]), [(0, "write"), (1, "step")])

    def test_items(self):
        for text, told in (("7", []), ("&x", []), ("x", [(0, "step")]), ("a[1]", [(1, "step")]),
                           ("x = 1", [(1, "step"), (1, "write")]), ("x += 1", [(1, "step"), (1, "write")]),
                           ("x++", [(0, "step"), (0, "write")]), ("f()", [(0, "call")]),
                           ("1 + 2", [(2, "step")]), ("x ? y : z", [(0, "step"), (1, "step"), (2, "step"), (3, "step")]),
                           ("f(x++) && print(1)", [(0, "step"), (0, "write"), (1, "call"), (3, "step"), (4, "step")])):
            with self.subTest(text=text):
                self.assertEqual(items(expression_of(text)), told)

    def test_own_steps_in_parts_come_first(self):
        self.assertTrue(before("x + y", (0, "step"), (2, "step")))
        self.assertFalse(before("x + y", (2, "step"), (0, "step")))
        self.assertFalse(before("x + y", (0, "step"), (1, "step")))
        self.assertFalse(before("x + y", (0, "step"), (0, "step")))
        self.assertTrue(before("-(-(-x))", (0, "step"), (3, "step")))
        self.assertTrue(before("f(1) + y", (1, "call"), (3, "step")))
        self.assertTrue(before("a[x] = y", (0, "step"), (2, "step")))
        self.assertTrue(before("*x += y", (1, "step"), (2, "step")))
        self.assertTrue(before("x++", (0, "step"), (0, "write")))
        self.assertTrue(before("x = y", (0, "step"), (1, "write")))
        self.assertFalse(before("x = y++", (0, "write"), (1, "step")))
        self.assertFalse(before("x = y++", (0, "write"), (1, "write")))
        self.assertFalse(before("x++ + y", (0, "write"), (2, "step")))

    def test_first_parts_come_first(self):
        for text in ("x++ && y", "x++ || y", "x++, y"):
            self.assertTrue(before(text, (0, "write"), (1, "step")))
            self.assertTrue(before(text, (0, "write"), (2, "step")))
        self.assertFalse(before("x && y++", (1, "write"), (2, "step")))
        self.assertFalse(before("x, y++", (1, "write"), (2, "step")))
        for node in (1, 2):
            self.assertTrue(before("x++ ? y++ : z++", (0, "write"), (node, "step")))
            self.assertTrue(before("x++ ? y++ : z++", (node, "step"), (3, "step")))
            self.assertFalse(before("x++ ? y++ : z++", (node, "write"), (3, "step")))

    def test_args_come_before_the_call(self):
        self.assertTrue(before("f(x++, y++)", (0, "write"), (2, "call")))
        self.assertTrue(before("f(x++, y++)", (1, "write"), (2, "call")))
        self.assertFalse(before("f(x++, y++)", (0, "write"), (1, "step")))
        self.assertTrue(before("f(x + y++)", (1, "write"), (3, "call")))

    def test_calls_beside_reads(self):
        self.assertEqual(unsequenced(expression_of("x + f()")), [((0, "step"), (1, "call"))])
        self.assertTrue(is_fixed(expression_of("x += f()")))
        self.assertTrue(before("x += f()", (0, "call"), (1, "step")))

    def test_parts_of_marked_nodes_come_in_turn(self):
        self.assertTrue(before("x++ +# y", (0, "write"), (1, "step")))
        self.assertTrue(before("x +# y++", (1, "write"), (2, "step")))
        self.assertTrue(before("f#(x++, y)", (0, "write"), (1, "step")))
        self.assertTrue(before("x =# y++", (0, "write"), (1, "step")))
        self.assertTrue(before("a[x++] =# y", (0, "write"), (1, "step")))
        self.assertTrue(before("-#x++", (0, "write"), (1, "step")))
        self.assertFalse(before("-x++", (0, "write"), (1, "step")))
        self.assertTrue(before("a[x++]++#", (0, "write"), (1, "step")))
        self.assertTrue(is_fixed(expression_of("x++ +# y++ +# print#(z)")))

    def test_chains(self):
        self.assertTrue(before("(x++, y) + z", (0, "write"), (4, "step")))
        self.assertTrue(before("-(f(x++) + y)", (0, "write"), (4, "step")))
        self.assertTrue(before("(x++ +# y) + z", (0, "write"), (4, "step")))
        self.assertTrue(before("w = (x++ && y)", (0, "write"), (3, "write")))
        self.assertTrue(before("(x++, y), z", (0, "write"), (3, "step")))

    def test_arms_of_one_cond(self):
        self.assertEqual(unsequenced(expression_of("x ? y++ : z++")),
                         [((1, "write"), (3, "step")), ((2, "write"), (3, "step"))])
        self.assertTrue(is_fixed(expression_of("x ? y : z")))
        self.assertTrue(is_fixed(expression_of("x ? y ? a[1] : 2 : z")))
        self.assertFalse(is_fixed(expression_of("(x ? y : z) + (x ? y : z)")))
        self.assertIn(((1, "step"), (5, "step")), unsequenced(expression_of("(x ? y : z) + (x ? y : z)")))

    def test_is_fixed(self):
        for text in ("7", "x", "x++", "x = 1", "-x", "f(x)", "1 + x", "x, y", "x && y", "f#(x, y)", "a[1] = x"):
            self.assertTrue(is_fixed(expression_of(text)), text)
        for text in ("x + y", "x = y++", "f(x, y)", "-x++", "a[x] = y", "x && y++"):
            self.assertFalse(is_fixed(expression_of(text)), text)

    def test_ready(self):
        cond = expression_of("x++ ? y : z")
        self.assertEqual(ready(cond, []), [(0, "step")])
        self.assertEqual(ready(cond, [(0, "step")]), [(0, "write")])
        self.assertEqual(ready(cond, [(0, "step"), (0, "write")]), [(1, "step"), (2, "step")])
        self.assertEqual(ready(cond, [(0, "step"), (0, "write"), (2, "step")]), [(1, "step")])
        self.assertEqual(ready(cond, [(0, "step"), (0, "write"), (2, "step"), (1, "step")]), [(3, "step")])
        self.assertEqual(ready(cond, items(cond)), [])
        self.assertEqual(ready(("num", 7), []), [])
        self.assertEqual(ready(expression_of("f(g(), x)"), []), [(0, "call"), (1, "step")])

    def test_early(self):
        for text, done, at in (
                ("x++ + y", [(0, "write")], 0), ("x++ + y", [(2, "step")], 0),
                ("x++ + y", [(0, "step"), (0, "step")], 1), ("x++ + y", [(0, "step"), (2, "step"), (1, "step")], 1),
                ("x++ + y", [(1, "step"), (0, "step"), (2, "step"), (0, "write"), (1, "step")], 4),
                ("x++, y", [(0, "step"), (1, "step"), (0, "step")], 1), ("f(x++)", [(0, "step"), (1, "call")], 1),
                ("x ? y : z", [(0, "step"), (1, "step"), (3, "step")], 2)):
            with self.subTest(text=text, done=done):
                with self.assertRaises(Early) as caught:
                    ready(expression_of(text), done)
                self.assertEqual(caught.exception.at, at)

    def test_against_the_rules_as_written(self):
        for seed in range(250):
            maker = Maker(seed)
            maker.ints, maker.refs = ["x", "y"], ["p", "q"]
            maker.functions = [("f", (("int", "k"), ("ref", "r"))), ("g", ())]
            expression = maker.any(4 if seed < 200 else 5)
            literal = Literal(expression)
            if len(literal.items) > 40:
                continue
            self.assertEqual(items(expression), sorted(literal.items))
            self.assertEqual(unsequenced(expression), literal.unsequenced())
            self.assertEqual(is_fixed(expression), not literal.unsequenced())
            for one in literal.items[:8]:
                for other in literal.items:
                    self.assertIs(must_before(expression, one, other), (one, other) in literal.pairs)

    def test_ready_one_by_one(self):
        for seed in range(60):
            maker = Maker(seed)
            maker.ints, maker.refs = ["x", "y"], ["p", "q"]
            expression = maker.int(4)
            literal = Literal(expression)
            done = []
            while len(done) < len(literal.items):
                told = [item for item in sorted(literal.items) if item not in done
                        and all(one in done for one, other in literal.pairs if other == item)]
                self.assertEqual(ready(expression, done), told)
                late = [item for item in literal.items if item not in told]
                with self.assertRaises(Early) as caught:
                    ready(expression, done + [maker.chance.choice(late)] + told if late else done + told[:1] * 2)
                self.assertEqual(caught.exception.at, len(done) + (0 if late else 1))
                done.append(maker.chance.choice(told))
            self.assertEqual(ready(expression, done), [])

    def test_lists_and_names(self):
        done = [[0, "step"]]
        self.assertEqual(ready(expression=listed(INC_PLUS), done=done), [(0, "write"), (1, "step")])
        self.assertEqual(done, [[0, "step"]])
        self.assertEqual(ready(INC_PLUS, ((0, "step"),)), [(0, "write"), (1, "step")])
        self.assertEqual(items(expression=listed(INC_PLUS)), items(INC_PLUS))
        self.assertIs(must_before(expression=listed(INC_PLUS), one=[0, "step"], other=[2, "step"]), True)
        self.assertEqual(unsequenced(expression=listed(INC_PLUS)), unsequenced(INC_PLUS))
        self.assertIs(is_fixed(expression=listed(INC_PLUS)), False)
        self.assertIsNot(items(INC_PLUS), items(INC_PLUS))


if __name__ == "__main__":
    unittest.main()
