"""The error classes: their bases, their attributes, made by position and by name."""

import unittest

from openorder import errors

CLASSES = {
    ValueError: {"BadText": "at", "BadLine": "at", "BadCode": "line", "BadDeed": "at",
                 "Unsound": "fault", "OtherInputs": "many", "Known": "name", "Unlike": "at"},
    LookupError: {"NoNode": "node", "NoFunction": "name", "NoItem": "item", "NoPair": "pair",
                  "NoMark": "node", "NoRun": "at", "NoTurn": "at", "NoDeed": "many"},
    RuntimeError: {"Cut": "most", "Conflicted": "conflict", "Last": "at", "Bound": "at",
                   "Early": "at"},
    OverflowError: {"TooMany": "many"},
}
TOLD = {
    "fault": ("unknown", 3), "item": (4, "write"), "pair": ((1, "write"), (4, "write")),
    "conflict": (("global", "x", 0), ((0,), "write"), ((1,), "read")), "name": "f",
}


class ErrorClasses(unittest.TestCase):
    def each(self):
        for base, names in CLASSES.items():
            for name, attribute in names.items():
                yield base, getattr(errors, name), attribute, TOLD.get(attribute, 7)

    def test_bases(self):
        for base, made, _, _ in self.each():
            with self.subTest(made=made.__name__):
                self.assertEqual(made.__bases__, (base,))
                self.assertEqual(made.__module__, "openorder.errors")

    def test_by_position_and_by_name(self):
        for base, made, attribute, told in self.each():
            with self.subTest(made=made.__name__):
                self.assertEqual(getattr(made(told), attribute), told)
                self.assertEqual(getattr(made(**{attribute: told}), attribute), told)
                with self.assertRaises(base):
                    raise made(told)
                with self.assertRaises(TypeError):
                    made()

    def test_lists_are_kept_as_tuples(self):
        self.assertEqual(errors.Unsound(["unknown", 3]).fault, ("unknown", 3))
        self.assertEqual(errors.NoItem([4, "write"]).item, (4, "write"))
        self.assertEqual(errors.NoPair([[1, "write"], [4, "write"]]).pair, TOLD["pair"])
        conflict = [["global", "x", 0], [[0], "write"], [[1], "read"]]
        self.assertEqual(errors.Conflicted(conflict).conflict, TOLD["conflict"])

    def test_no_others(self):
        named = {name for names in CLASSES.values() for name in names}
        defined = {name for name, value in vars(errors).items() if isinstance(value, type)}
        self.assertEqual(defined, named)


if __name__ == "__main__":
    unittest.main()
