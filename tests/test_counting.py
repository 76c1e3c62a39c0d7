"""[12]: the numbers of orders and of sets of ITEMs, against going over all sets; and the inputs that took long."""

import random
import unittest

from openorder.counting import orders_many
from openorder.errors import Cut, TooMany
from openorder.explorer import ends, fork, runs_many
from openorder.most import MOST_SETS
from openorder.ordering import Ordering
from openorder.reader import read
from openorder.watcher import accesses, is_calm
from tests.maker import Clasher, Maker


def by_all_sets(before, places, most):
    """Return the number of the orders, None if there are more sets than most."""
    ways, sets_many = {frozenset(): 1}, 1
    ahead = {place: {other for other in places if before[place] >> other & 1} for place in places}
    for _ in places:
        larger = {}
        for done, many in ways.items():
            for place in places:
                if place not in done and ahead[place] <= done:
                    larger[done | {place}] = larger.get(done | {place}, 0) + many
        ways = larger
        sets_many += len(ways)
        if sets_many > most:
            return None
    return ways[frozenset(places)]


def counted(before, mask):
    try:
        return orders_many(before, mask)
    except TooMany as error:
        assert error.many == MOST_SETS
        return None


class Counting(unittest.TestCase):
    def test_expressions_by_chance(self):
        many = too_many = 0
        for seed in range(700):
            chance = random.Random(seed)
            maker = (Maker, Clasher)[seed % 2](seed)
            maker.program(functions=2, statements=1, level=1)
            ordering = Ordering(maker.int(chance.randint(1, 5)))
            places = range(len(ordering.listed))
            if len(places) > 26:
                continue
            told = by_all_sets(ordering.before, places, MOST_SETS)
            self.assertEqual(counted(ordering.before, (1 << len(places)) - 1), told)
            many += told is not None and told > 1
            too_many += told is None
        self.assertGreater(many, 200)
        self.assertGreater(too_many, 0)

    def test_orders_by_chance(self):
        for seed in range(300):
            chance = random.Random(seed)
            places = range(chance.randint(1, 9))
            before = [0 for _ in places]
            for place in places:
                for other in range(place):
                    if chance.random() < 0.3:
                        before[place] |= before[other] | 1 << other
            self.assertEqual(counted(before, (1 << len(places)) - 1), by_all_sets(before, places, MOST_SETS))

    def test_some_of_the_items(self):
        before = [0, 1, 0, 1 | 2 | 4, 0]
        for mask in range(32):
            places = [place for place in range(5) if mask >> place & 1]
            self.assertEqual(counted(before, mask), by_all_sets(before, places, MOST_SETS))

    def test_just_enough_sets(self):
        # Ten ITEMs side by side have 1,024 sets; with a chain of two beside them 3,072, of three 4,096.
        self.assertEqual(orders_many([0] * 10 + [0, 1 << 10], (1 << 12) - 1), 239500800)
        self.assertIsNone(counted([0] * 10 + [0, 1 << 10, 3 << 10], (1 << 13) - 1))


class LongRuns(unittest.TestCase):
    FOREVER = read("int x = 0; fun main() { while (1, 1) { x += 1; } }")

    def test_a_loop_without_an_end(self):
        self.assertEqual(ends(self.FOREVER, [], most=999), [((("going",), (), (333,)), 1, [])])
        self.assertEqual(ends(self.FOREVER, []), [((("going",), (), (66,)), 1, [])])
        self.assertRaises(TooMany, fork, self.FOREVER, [], most=1000)
        self.assertIsNone(fork(self.FOREVER, []))
        self.assertEqual(len(accesses(self.FOREVER, [])), 1333)
        with self.assertRaises(Cut) as caught:
            runs_many(self.FOREVER, [])
        self.assertEqual(caught.exception.most, 2000)

    def test_a_loop_and_two_parts_side_by_side(self):
        program = read("int i = 0; int v = 0; int y = 0; int z = 0; fun h(int p, int q, int r) { return 7; } fun main(int k) { "
                       "while (i < 237) { i += 1; } return h((y += 0, v), (z += 0, v), i); }")
        with self.assertRaises(TooMany) as caught:
            ends(program, [3], most=2000)
        self.assertEqual(caught.exception.many, 1000)
        shorter = read("int i = 0; int v = 0; int y = 0; fun h(int p, int q, int r) { return 7; } fun main(int k) { "
                       "while (i < 7) { i += 1; } return h((y += 0, v), (k += 0, v), i); }")
        self.assertEqual([told[:2] for told in ends(shorter, [3])], [((("ended", 7), (), (7, 0, 0)), runs_many(shorter, [3]))])

    def test_many_sets(self):
        head = ("int x = 1; int y = 0; fun g(int na, int nb) { return 7; } fun f(int fa, int fb, int fc) { return 7; } "
                "fun h(int ha, int hb, int hc, int hd, int he) { return 7; } fun main(int k) { return ")
        just = read(head + "f(g(-(-(-(-x))), -(-(-(-(-x))))), g(-(-(-x)), -(-(-(-x)))), y++); }")
        self.assertEqual(runs_many(just, [3], most=2000), 10389345718752)
        more = read(head + "h(-(-(-x)), -(-(-x)), -(-(-x)), -(-(-(-(-(-x))))), -(-x)); }")
        with self.assertRaises(TooMany) as caught:
            runs_many(more, [3], most=2000)
        self.assertEqual(caught.exception.many, 4000)

    def test_bodies_in_bodies(self):
        for n, result in ((10, True), (12, True)):
            program = read("int x = 0; int y = 0; int z = 0; fun f(int n) { (z = 4) + y++; return n < 1 ? 7 : f(n - 1); } fun main() { "
                           f"f({n}) + (x += 3); " + "}")
            self.assertEqual(is_calm(program, []), result)
            for choices in ([], [1, 2, 0, 1, 2, 1, 0, 2]):
                self.assertEqual(runs_many(program, [], choices), runs_many(program, []))


if __name__ == "__main__":
    unittest.main()
