"""The interface: what stands in which file, with which arguments; and the limits in most.py."""

import importlib
import inspect
import unittest

from openorder import most

LISTED = {
    "reader": {"read": "text", "function_in": "text", "program_text": "program"},
    "kinds": {"fault_of": "program"},
    "nodes": {"node_many": "program", "node_at": "program, node", "parts_at": "program, node",
              "top_at": "program, node"},
    "machine": {"run": "program, inputs, choices=(), *, most=2000",
                "turns": "program, inputs, choices=(), *, most=2000",
                "possible": "program, inputs, choices", "choices_of": "program, inputs, some"},
    "sequence": {"items": "expression", "must_before": "expression, one, other",
                 "unsequenced": "expression", "is_fixed": "expression", "ready": "expression, done"},
    "watcher": {"accesses": "program, inputs, choices=(), *, most=2000",
                "conflicts": "program, inputs, choices=(), *, most=2000",
                "first_conflict": "program, inputs, choices=(), *, most=2000",
                "is_calm": "program, inputs, choices=(), *, most=2000"},
    "explorer": {"ends": "program, inputs, *, most=200", "fork": "program, inputs, *, most=200",
                 "runs_many": "program, inputs, choices=(), *, most=2000"},
    "exchanges": {"exchanged": "program, inputs, choices, at, *, most=2000",
                  "apart": "program, inputs, one, other, *, most=2000",
                  "between": "program, inputs, one, other, *, most=2000",
                  "turned_about": "program, inputs, choices, *, most=2000"},
    "pointing": {"targets": "program", "footprint": "program, function"},
    "checker": {"may_access": "program, item", "refused": "program", "first_refused": "program",
                "is_let_by": "program"},
    "mending": {"way": "program, one, other", "marks_needed": "program", "least_many": "program",
                "least_mends": "program", "first_mend": "program", "mended": "program, nodes"},
    "needs": {"fewest_spills": "expression, registers", "best_plan": "expression, registers", "need": "expression"},
    "code": {"rows_of": "program", "compiled": "program, registers=4"},
    "fitting": {"fitted": "code, registers"},
    "codemachine": {"code_run": "code, inputs, *, most=20000",
                    "code_choices": "program, inputs, registers=4, *, most=2000"},
    "codetexts": {"code_text": "code", "code_in": "text"},
    "optimizer": {"improved": "program, code, word", "optimized": "program, words=('fold', 'share', 'carry', 'drop', 'lift')"},
    "desk": {"answers": "text"},
}
METHODS = {
    "put": "function", "replace": "function", "take": "name", "lay": "entry", "mend": "", "undo": "",
    "do": "deeds, *, whole=True", "program_now": "", "text": "", "functions": "", "run": "inputs", "first_refused": "",
    "footprint": "name", "code_for": "registers=4", "changed": "", "deeds": "", "as_of": "many", "log": "",
    "__init__": "program", "__len__": "", "__eq__": "other", "__repr__": "",
}


class Interface(unittest.TestCase):
    def test_functions(self):
        for name, functions in LISTED.items():
            module = importlib.import_module("openorder." + name)
            for function, arguments in functions.items():
                with self.subTest(function=function):
                    found = getattr(module, function)
                    self.assertEqual(found.__module__, "openorder." + name)
                    self.assertEqual(str(inspect.signature(found)), f"({arguments})")

    def test_workshop(self):
        made = importlib.import_module("openorder.workshop").Workshop
        self.assertEqual(made.__module__, "openorder.workshop")
        for name, arguments in METHODS.items():
            with self.subTest(method=name):
                told = ", ".join(["self", arguments] if arguments else ["self"])
                self.assertEqual(str(inspect.signature(vars(made)[name])), f"({told})")

    def test_passes(self):
        self.assertEqual(importlib.import_module("openorder.optimizer").PASSES, ("fold", "share", "carry", "drop", "lift"))

    def test_most(self):
        self.assertEqual([most.MOST_STATES, most.MOST_SETS], [1000, 4000])


if __name__ == "__main__":
    unittest.main()
