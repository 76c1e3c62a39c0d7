"""Which globals the functions of a program may read and write, found without running it."""

from openorder.shapes import WRITING


class Footprints:
    """What each node may access, and each function by itself and by calls in it.

    An access is a pair (name, sort), name "" for the output.
    """

    def __init__(self, pointers):
        self.pointers = pointers
        self.touched = {function[0]: {} for function in pointers.functions}
        self.called = {function[0]: {} for function in pointers.functions}
        for node, expression in enumerate(pointers.layout.expressions):
            function = pointers.function_of(node)
            if expression[0] == "call":
                self.called[function][expression[1]] = True
                continue
            for kind in ("step", "write"):
                for access in self.accesses_of(function, expression, kind):
                    if access[0] == "" or ("", access[0]) in pointers.kinds:
                        self.touched[function][access] = True
        self.follow_calls()

    def accesses_of(self, function, expression, kind):
        """Return the list of what the step or the write of a node may access; calls make none."""
        word = expression[0]
        if word == "print":
            return [("", "write")] if kind == "step" else []
        if word in WRITING:
            if kind == "step" and word == "set":
                return []
            sort = "write" if kind == "write" else "read"
            return [(name, sort) for name in self.pointers.names_at(function, expression[1])]
        if word in ("var", "item", "at") and kind == "step":
            return [(name, "read") for name in self.pointers.names_at(function, expression)]
        return []

    def follow_calls(self):
        """Add what the called functions touch, until nothing is new."""
        is_changed = True
        while is_changed:
            is_changed = False
            for function in self.called:
                for called in self.called[function]:
                    for access in list(self.touched[called]):
                        if access not in self.touched[function]:
                            self.touched[function][access] = True
                            is_changed = True

    def names(self, function, sort):
        """Return the ascending tuple of the names that a function may read, or write."""
        return tuple(sorted([name for name, told in self.touched[function] if told == sort]))
