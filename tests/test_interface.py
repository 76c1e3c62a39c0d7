"""The interface: what stands in which file, with which arguments; and the limits in most.py."""

import importlib
import inspect
import unittest

from openorder import most

LISTED = {
    "reader": {"read": "text", "function_in": "text", "program_text": "program"},
    "kinds": {"fault_of": "program"},
    "nodes": {"node_many": "program", "node_at": "program, node", "parts_at": "program, node",
              "top_at": "program, node"},
    "machine": {"run": "program, inputs, choices=(), *, most=2000",
                "turns": "program, inputs, choices=(), *, most=2000",
                "possible": "program, inputs, choices", "choices_of": "program, inputs, some"},
    "sequence": {"items": "expression", "must_before": "expression, one, other",
                 "unsequenced": "expression", "is_fixed": "expression", "ready": "expression, done"},
    "watcher": {"accesses": "program, inputs, choices=(), *, most=2000",
                "conflicts": "program, inputs, choices=(), *, most=2000",
                "first_conflict": "program, inputs, choices=(), *, most=2000",
                "is_calm": "program, inputs, choices=(), *, most=2000"},
    "explorer": {"ends": "program, inputs, *, most=200", "fork": "program, inputs, *, most=200",
                 "runs_many": "program, inputs, choices=(), *, most=2000"},
    "exchanges": {"exchanged": "program, inputs, choices, at, *, most=2000",
                  "apart": "program, inputs, one, other, *, most=2000",
                  "between": "program, inputs, one, other, *, most=2000",
                  "turned_about": "program, inputs, choices, *, most=2000"},
    "pointing": {"targets": "program", "footprint": "program, function"},
    "checker": {"may_access": "program, item", "refused": "program", "first_refused": "program",
                "is_let_by": "program"},
    "mending": {"way": "program, one, other", "marks_needed": "program", "least_many": "program",
                "least_mends": "program", "first_mend": "program", "mended": "program, nodes"},
    "needs": {"fewest_spills": "expression, registers", "best_plan": "expression, registers", "need": "expression"},
}


class Interface(unittest.TestCase):
    def test_functions(self):
        for name, functions in LISTED.items():
            module = importlib.import_module("openorder." + name)
            for function, arguments in functions.items():
                with self.subTest(function=function):
                    found = getattr(module, function)
                    self.assertEqual(found.__module__, "openorder." + name)
                    self.assertEqual(str(inspect.signature(found)), f"({arguments})")

    def test_most(self):
        self.assertEqual([most.MOST_STATES, most.MOST_SETS], [1000, 4000])


if __name__ == "__main__":
    unittest.main()
