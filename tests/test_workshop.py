"""[20]: a workshop, its deeds and its queries."""

import random
import unittest
from unittest import mock

from openorder.checker import first_refused
from openorder.code import compiled
from openorder.errors import BadDeed, Known, NoDeed, NoFunction, OtherInputs, Unsound
from openorder.kinds import fault_of
from openorder.machine import run
from openorder.mending import first_mend, mended
from openorder.nodes import node_many
from openorder.pointing import footprint
from openorder.reader import function_in, program_text, read
from openorder.workshop import Workshop
from tests.maker import Clasher, Maker
from tests.programs import DEMO, TWICE, listed, only_tuples

BASE = read("int x = 1; int y = 2; int a[3]; ref p = &x; fun f(int n) { x = n; return n; } fun g() { return y; } "
            "fun main(int k) { print(f(k) + g()); return x; }")
G_WITH_X = function_in("fun g() { return x++; }")
NEW = function_in("fun h(ref r) { return *r + 1; }")


class Examples(unittest.TestCase):
    def test_example(self):
        shop = Workshop(DEMO)
        self.assertEqual([shop.mend(), shop.first_refused(), shop.functions(), shop.undo(), repr(shop)],
                         [(8,), None, ["f", "main"], True, "Workshop(2 functions, 9 nodes)"])


class Raising(unittest.TestCase):
    def raises(self, error, call, *given, **named):
        """Return the error that a call raises; check that it changes nothing."""
        shop = call.__self__
        before = told(shop)
        with self.assertRaises(error) as caught:
            call(*given, **named)
        self.assertEqual(told(shop), before)
        return caught.exception


class Deeds(Raising):
    def test_unsound_programs(self):
        for text in ("fun main() { return y; }", "int x = 0; int x = 1; fun main() { }", "fun f() { }"):
            with self.assertRaises(Unsound) as caught:
                Workshop(read(text))
            self.assertEqual(caught.exception.fault, fault_of(read(text)))

    def test_put(self):
        shop = Workshop(BASE)
        self.assertEqual(shop.put(NEW), 4)
        self.assertEqual(shop.functions(), ["f", "g", "h", "main"])
        self.assertEqual(shop.put(function=function_in("fun z() { return h(&x) + f(1); }")), 5)
        self.assertEqual(shop.functions(), ["f", "g", "h", "z", "main"])
        self.assertEqual(shop.program_now()[1][2], NEW)

    def test_put_with_errors(self):
        shop = Workshop(BASE)
        for name in ("f", "g", "main"):
            self.assertEqual(self.raises(Known, shop.put, function_in("fun " + name + "() { return nobody; }")).name, name)
        wrong = function_in("fun h() { return nobody; }")
        fault = fault_of((BASE[0], BASE[1][:2] + (wrong,) + BASE[1][2:]))
        self.assertEqual(fault[0], "unknown")
        self.assertEqual(self.raises(Unsound, shop.put, wrong).fault, fault)
        self.assertEqual(self.raises(Unsound, shop.put, function_in("fun x() { }")).fault, ("twice", "x"))

    def test_replace(self):
        shop = Workshop(BASE)
        self.assertEqual(shop.replace(G_WITH_X), 1)
        self.assertEqual(shop.functions(), ["f", "g", "main"])
        self.assertEqual(shop.replace(function=function_in("fun main() { print(1 + 2); }")), 4)
        self.assertEqual(shop.run([]), (("ended", 0), (3,), (1, 2, (0, 0, 0), ("x", 0))))
        self.assertEqual(shop.replace(function_in("fun f(int n) { }")), 0)

    def test_replace_with_errors(self):
        shop = Workshop(BASE)
        self.assertEqual(self.raises(NoFunction, shop.replace, NEW).name, "h")
        self.assertEqual(self.raises(NoFunction, shop.replace, function_in("fun h() { return nobody; }")).name, "h")
        found = self.raises(Unsound, shop.replace, function_in("fun f() { return 1; }"))
        self.assertEqual(found.fault, ("many", 3))
        self.assertEqual(self.raises(Unsound, shop.replace, function_in("fun main(ref r) { }")).fault, ("main", "main"))

    def test_take(self):
        shop = Workshop(BASE)
        shop.put(NEW)
        self.assertEqual(shop.take("h"), node_many(((), (NEW,))))
        self.assertEqual(shop.functions(), ["f", "g", "main"])
        self.assertEqual(self.raises(NoFunction, shop.take, "h").name, "h")
        self.assertEqual(self.raises(NoFunction, shop.take, name="main").name, "main")
        self.assertEqual(self.raises(NoFunction, shop.take, "x").name, "x")
        self.assertEqual(self.raises(Unsound, shop.take, "g").fault, fault_of((BASE[0], BASE[1][:1] + BASE[1][2:])))

    def test_lay(self):
        shop = Workshop(BASE)
        self.assertEqual(shop.lay(("int", "z", -5)), 5)
        self.assertEqual(shop.lay(entry=("int", "y", 9)), 5)
        self.assertEqual(shop.lay(("ref", "p", "a", 2)), 5)
        self.assertEqual(shop.program_now()[0], (("int", "x", 1), ("int", "y", 9), ("array", "a", 3), ("ref", "p", "a", 2), ("int", "z", -5)))
        self.assertEqual(shop.run([7])[2], (7, 9, (0, 0, 0), ("a", 2), -5))
        for entry, fault in ((("array", "b", 0), ("size", "b")), (("array", "x", 3), None), (("int", "f", 1), ("twice", "f")),
                             (("ref", "q", "y", 1), ("target", "q")), (("int", "main", 1), ("twice", "main")), (("int", "n", 1), ("twice", "n"))):
            found = self.raises(Unsound, shop.lay, entry)
            self.assertEqual(found.fault, fault or found.fault)

    def test_mend(self):
        shop = Workshop(BASE)
        self.assertEqual(shop.mend(), first_mend(BASE))
        self.assertEqual(shop.program_now(), mended(BASE, first_mend(BASE)))
        self.assertEqual((shop.mend(), shop.deeds()), ((), 2))
        clash = Workshop(read("int x = 1; fun main(int k) { x = k + x++; x = x++; }"))
        nodes = first_mend(clash.program_now())
        self.assertEqual((clash.mend(), len(nodes)), (nodes, 2))
        self.assertIsNone(clash.first_refused())

    def test_undo(self):
        shop = Workshop(BASE)
        self.assertIs(shop.undo(), False)
        shop.put(NEW)
        shop.mend()
        shop.mend()
        shop.lay(("int", "y", 2))
        self.assertEqual(shop.deeds(), 4)
        self.assertEqual([shop.undo() for _ in range(5)], [True, True, True, True, False])
        self.assertEqual((shop.program_now(), shop.deeds()), (BASE, 0))


class Do(Raising):
    def test_results(self):
        shop = Workshop(BASE)
        self.assertEqual(shop.do([("put", NEW), ("mend",), ("lay", ("int", "z", 0)), ("replace", G_WITH_X), ("take", "h")]),
                         [4, first_mend(BASE), 5, 1, node_many(((), (NEW,)))])
        self.assertEqual(shop.deeds(), 5)
        self.assertEqual(shop.log(), [("in", 5), "put", "mend", "lay", "replace", "take", ("out", 5)])
        self.assertEqual(shop.undo(), True)
        self.assertEqual((shop.functions(), shop.deeds()), (["f", "g", "h", "main"], 4))
        self.assertEqual(shop.do(()), [])
        self.assertEqual(shop.log()[7:], [("in", 0), ("out", 0)])

    def test_bad_deeds(self):
        shop = Workshop(BASE)
        for item in (["mend"], ["put", NEW], ("mend", 1), ("put",), ("put", NEW, 1), ("undo",), ("do", []), ("Mend",), (), "mend", None, 7, [],
                     ((),), (("mend",),), (["mend"],), (None,), (3, NEW), ("take",), ("take", "f", "g"), ("replace",), ("lay",), ("text",), ("",)):
            for deeds, at in (([item], 0), ([("mend",), item], 1), ([("put", NEW), ("take", "nobody"), item, "x"], 2)):
                for whole in (True, False):
                    self.assertEqual(self.raises(BadDeed, shop.do, deeds, whole=whole).at, at)
        self.assertEqual((shop.log(), shop.deeds()), ([], 0))

    def test_errors_with_whole(self):
        for bad, error in ((("take", "nobody"), NoFunction), (("put", function_in("fun f() { }")), Known), (("take", "g"), Unsound),
                           (("lay", ("array", "b", 21)), Unsound), (("replace", function_in("fun no() { }")), NoFunction)):
            shop = Workshop(BASE)
            shop.lay(("int", "z", 1))
            before = told(shop)
            with self.assertRaises(error):
                shop.do([("put", NEW), ("replace", G_WITH_X), bad, ("mend",)])
            self.assertEqual(told(shop)[:-1], before[:-1])
            self.assertEqual(shop.log(), [("in", 4), "put", "replace", ("out", 2)])
            with self.assertRaises(error):
                shop.do(deeds=[("put", NEW), ("replace", G_WITH_X), bad, ("mend",)], whole=False)
            self.assertEqual(shop.log()[4:], [("in", 4), "put", "replace", ("out", 2)])
            self.assertEqual((shop.functions(), shop.deeds()), (["f", "g", "h", "main"], 3))
            self.assertEqual(shop.changed(), ["g", "main"])
            self.assertEqual([shop.undo(), shop.undo(), shop.undo(), shop.undo()], [True, True, True, False])

    def test_the_first_deed_raises(self):
        shop = Workshop(BASE)
        for whole in (True, False):
            self.assertRaises(NoFunction, shop.do, [("take", "h"), ("mend",)], whole=whole)
        self.assertEqual((shop.log(), shop.deeds()), ([("in", 2), ("out", 0)] * 2, 0))

    def test_the_log_is_kept(self):
        shop = Workshop(BASE)
        shop.do([("mend",)])
        shop.undo()
        shop.mend()
        shop.log().append("x")
        self.assertEqual(shop.log(), [("in", 1), "mend", ("out", 1)])


class Changed(unittest.TestCase):
    def test_behind_deeds(self):
        shop = Workshop(BASE)
        self.assertEqual(shop.changed(), [])
        shop.replace(G_WITH_X)
        self.assertEqual(shop.changed(), ["g", "main"])
        shop.mend()
        self.assertEqual(shop.changed(), [])
        shop.put(function_in("fun h() { }"))
        self.assertEqual(shop.changed(), ["h"])
        shop.replace(function_in("fun h() { return g(); }"))
        self.assertEqual(shop.changed(), ["h"])
        shop.take("h")
        self.assertEqual(shop.changed(), [])
        shop.lay(("ref", "p", "y", 0))
        self.assertEqual(shop.changed(), [])

    def test_functions_that_nobody_touched(self):
        shop = Workshop(read("int x = 0; int y = 0; ref p = &x; fun f() { *p = 1; } fun g() { f(); } fun main() { g(); }"))
        self.assertEqual(shop.footprint("g"), (("p",), ("x",)))
        shop.lay(("ref", "p", "y", 0))
        self.assertEqual(shop.changed(), ["f", "g", "main"])
        self.assertEqual(shop.footprint("g"), (("p",), ("y",)))

    def test_behind_errors_and_undo(self):
        shop = Workshop(BASE)
        shop.replace(G_WITH_X)
        self.assertRaises(NoFunction, shop.take, "nobody")
        self.assertEqual(shop.changed(), ["g", "main"])
        self.assertTrue(shop.undo())
        self.assertEqual(shop.changed(), ["g", "main"])
        self.assertFalse(shop.undo())
        self.assertEqual(shop.changed(), ["g", "main"])
        shop.mend()
        self.assertTrue(shop.undo())
        self.assertEqual(shop.changed(), [])

    def test_behind_do(self):
        shop = Workshop(BASE)
        shop.do([("replace", G_WITH_X), ("mend",)])
        self.assertEqual(shop.changed(), [])
        shop.do([("mend",), ("put", NEW)])
        self.assertEqual(shop.changed(), ["h"])
        shop.do([])
        self.assertEqual(shop.changed(), ["h"])
        self.assertRaises(NoFunction, shop.do, [("mend",), ("take", "nobody")])
        self.assertEqual(shop.changed(), ["h"])
        self.assertRaises(NoFunction, shop.do, [("mend",), ("take", "nobody")], whole=False)
        self.assertEqual(shop.changed(), [])


class Queries(unittest.TestCase):
    def test_queries(self):
        for program, inputs in ((BASE, [3]), (DEMO, [2]), (TWICE, [0])):
            shop = Workshop(program)
            self.assertEqual(shop.program_now(), program)
            self.assertEqual(shop.text(), program_text(program))
            self.assertEqual(shop.functions(), [function[0] for function in program[1]])
            self.assertEqual(shop.run(inputs), run(program, inputs))
            self.assertEqual(shop.run(inputs=tuple(inputs)), run(program, inputs))
            self.assertEqual(shop.first_refused(), first_refused(program))
            for name in shop.functions():
                self.assertEqual(shop.footprint(name), footprint(program, name))
            self.assertEqual([shop.code_for(), shop.code_for(3), shop.code_for(registers=8)], [compiled(program, many) for many in (4, 3, 8)])
            self.assertEqual((len(shop), shop.deeds(), shop.log(), shop.changed()), (len(program[1]), 0, [], []))
            self.assertEqual(repr(shop), f"Workshop({len(program[1])} functions, {node_many(program)} nodes)")
        self.assertEqual(repr(Workshop(read("fun main() { }"))), "Workshop(1 functions, 0 nodes)")

    def test_errors_of_queries(self):
        shop = Workshop(BASE)
        with self.assertRaises(OtherInputs) as caught:
            shop.run([])
        self.assertEqual(caught.exception.many, 1)
        with self.assertRaises(NoFunction) as caught:
            shop.footprint(name="h")
        self.assertEqual(caught.exception.name, "h")

    def test_equal(self):
        shop, other = Workshop(BASE), Workshop(listed(BASE))
        self.assertTrue(shop == other)
        self.assertFalse(shop != other)
        other.mend()
        self.assertTrue(shop == other)
        other.put(NEW)
        self.assertFalse(shop == other)
        other.undo()
        self.assertTrue(shop == other)
        for thing in (BASE, None, 1, "Workshop", [BASE], program_text(BASE), mock.ANY):
            self.assertFalse(shop == thing)

    def test_as_of(self):
        shop = Workshop(BASE)
        states = [shop.program_now()]
        for deed in (lambda: shop.put(NEW), shop.mend, shop.mend, lambda: shop.take("h")):
            deed()
            states.append(shop.program_now())
        shop.do([("lay", ("int", "z", 0))])
        states.append(shop.program_now())
        for many, state in enumerate(states):
            then = shop.as_of(many=many)
            self.assertEqual((then.program_now(), then.deeds(), then.log(), then.changed()), (state, many, [], []))
            self.assertEqual([then.undo() for _ in range(many + 1)], [True] * many + [False])
            self.assertEqual(then.program_now(), BASE)
        for many in (-1, 6, -7, 10 ** 30):
            with self.assertRaises(NoDeed) as caught:
                shop.as_of(many)
            self.assertEqual(caught.exception.many, many)
        then = shop.as_of(2)
        then.lay(("int", "w", 1))
        self.assertEqual((shop.deeds(), shop.program_now(), then.deeds()), (5, states[-1], 3))
        shop.undo()
        self.assertEqual((then.deeds(), then.log()), (3, []))

    def test_lists_handed_in(self):
        program, function, entry = listed(BASE), listed(NEW), ["int", "z", 4]
        shop = Workshop(program)
        shop.put(function)
        shop.lay(entry)
        shop.do([("replace", replaced := listed(G_WITH_X))])
        before = told(shop)
        program[0].clear()
        function[2].append(1)
        entry[2] = 7
        replaced[0] = "zz"
        self.assertEqual(told(shop), before)
        self.assertTrue(only_tuples(shop.program_now()))
        for queried in (shop.functions, shop.log, shop.changed):
            queried().append("x")
            self.assertEqual(told(shop), before)


def told(shop):
    """Return all that a workshop answers, its log last."""
    inputs = [1] * len(shop.program_now()[1][-1][1])
    return (shop.program_now(), shop.text(), shop.functions(), shop.run(inputs), shop.first_refused(),
            [shop.footprint(name) for name in shop.functions()], shop.code_for(), shop.changed(), shop.deeds(),
            len(shop), repr(shop), shop.log())


class Model:
    """A workshop as a list of programs; changed is by the footprints of the one ahead of the last event."""

    def __init__(self, program):
        self.programs = [program]
        self.ahead = program

    def deed(self, program):
        self.ahead = self.programs[-1]
        self.programs.append(program)

    def changed(self):
        now = self.programs[-1]
        old = {function[0]: footprint(self.ahead, function[0]) for function in self.ahead[1]}
        return sorted(function[0] for function in now[1] if old.get(function[0]) != footprint(now, function[0]))


class ByChance(unittest.TestCase):
    def function(self, chance, name, program):
        """Make a function that may or may not fit into a program."""
        maker = (Maker if chance.random() < 0.5 else Clasher)(chance.randrange(10 ** 6))
        made = maker.program(functions=2, statements=2, level=2)
        maker_function = made[1][chance.randrange(2)]
        return (name,) + maker_function[1:]

    def deed(self, chance, program):
        names = [function[0] for function in program[1]] + ["n1", "n2", "nobody"]
        roll = chance.randrange(8)
        if roll < 2:
            return ("put", self.function(chance, chance.choice(["n1", "n2", "n3", "f0"]), program))
        if roll < 4:
            return ("replace", self.function(chance, chance.choice(names), program))
        if roll < 5:
            return ("take", chance.choice(names))
        if roll < 7:
            return ("lay", chance.choice([("int", "x", chance.randrange(5)), ("array", "a", chance.randrange(5)), ("int", "new", 3),
                                          ("ref", "p", chance.choice(("x", "y", "a")), chance.randrange(2)), ("array", "y", 3)]))
        return ("mend",)

    def behind(self, program, deed):
        """Return the program behind a deed, and its result; the class of its error if it raises one."""
        entries, functions = program
        names = [function[0] for function in functions]
        word, given = deed[0], deed[1] if len(deed) > 1 else None
        if word == "mend":
            return mended(program, first_mend(program)), first_mend(program)
        if word == "put":
            if given[0] in names:
                return Known, None
            made = (entries, functions[:-1] + (given,) + functions[-1:])
            result = len(made[1])
        elif word == "lay":
            told_names = [entry[1] for entry in entries]
            if given[1] in told_names:
                at = told_names.index(given[1])
                made = (entries[:at] + (given,) + entries[at + 1:], functions)
            else:
                made = (entries + (given,), functions)
            result = len(made[0])
        else:
            name = given if word == "take" else given[0]
            if name not in names or deed == ("take", "main"):
                return NoFunction, None
            at = names.index(name)
            result = node_many(((), (functions[at] if word == "take" else given,)))
            made = (entries, functions[:at] + ((given,) if word == "replace" else ()) + functions[at + 1:])
        return (made, result) if fault_of(made) is None else (Unsound, None)

    def test_against_a_list_of_programs(self):
        seen = {}
        for seed in range(60):
            chance = random.Random(seed)
            program = (Maker if seed % 2 else Clasher)(seed).program(functions=chance.randint(1, 3), statements=2, level=2)
            shop, model = Workshop(program), Model(program)
            for _ in range(14):
                self.one_step(chance, shop, model, seen)
                fresh = Workshop(model.programs[-1])
                self.assertEqual(shop, fresh)
                self.assertEqual(told(shop)[:7], told(fresh)[:7])
                self.assertEqual((shop.deeds(), shop.changed()), (len(model.programs) - 1, model.changed()))
        self.assertGreater(min(seen.values()), 10)

    def one_step(self, chance, shop, model, seen):
        roll = chance.random()
        if roll < 0.2:
            self.assertEqual(shop.undo(), len(model.programs) > 1)
            if len(model.programs) > 1:
                model.ahead = model.programs.pop()
        elif roll < 0.6:
            deed = self.deed(chance, model.programs[-1])
            made, result = self.behind(model.programs[-1], deed)
            call = {"put": shop.put, "replace": shop.replace, "take": shop.take, "lay": shop.lay, "mend": shop.mend}[deed[0]]
            self.one_deed(lambda: call(*deed[1:]), made, result, model, seen)
        else:
            self.one_do(chance, shop, model, seen)

    def one_deed(self, call, made, result, model, seen):
        key = made.__name__ if isinstance(made, type) else "done"
        seen[key] = seen.get(key, 0) + 1
        if isinstance(made, type):
            self.assertRaises(made, call)
        else:
            self.assertEqual(call(), result)
            model.deed(made)

    def one_do(self, chance, shop, model, seen):
        deeds, results, states, error = [], [], [model.programs[-1]], None
        for _ in range(chance.randrange(5)):
            deed = self.deed(chance, states[-1])
            deeds.append(deed)
            if error is None:
                made, result = self.behind(states[-1], deed)
                if isinstance(made, type):
                    error = made
                else:
                    states.append(made)
                    results.append(result)
        whole = chance.random() < 0.5
        logged = shop.log()
        if error is None:
            self.assertEqual(shop.do(deeds, whole=whole), results)
        else:
            self.assertRaises(error, shop.do, deeds, whole=whole)
        self.assertEqual(shop.log(), logged + [("in", len(deeds))] + [deed[0] for deed in deeds[:len(results)]] + [("out", len(results))])
        key = ("do", error is None, whole)
        seen[key] = seen.get(key, 0) + 1
        if error is None or not whole:
            for state in states[1:]:
                model.deed(state)


if __name__ == "__main__":
    unittest.main()
