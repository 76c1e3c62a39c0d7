"""Which items of a program may meet though their order is open."""

from openorder.footprints import Footprints
from openorder.orders import Orders
from openorder.pointers import Pointers
from openorder.shapes import WRITING, own_kind


class Refusals:
    """The items of a program, what each may access, and the refused pairs."""

    def __init__(self, program):
        self.pointers = Pointers(program)
        self.layout = self.pointers.layout
        self.footprints = Footprints(self.pointers)
        self.orders = Orders(self.layout)

    def has_item(self, item):
        """Tell whether there is such an item."""
        node, kind = item
        if not 0 <= node < len(self.layout.expressions):
            return False
        return kind in kinds_of(self.layout.expressions[node])

    def accesses_of(self, item):
        """Return the ascending list of the pairs (name, sort) of all that an item may access."""
        node, kind = item
        expression = self.layout.expressions[node]
        if kind == "call":
            return sorted(list(self.footprints.touched[expression[1]]))
        function = self.pointers.function_of(node)
        found = {access: True for access in self.footprints.accesses_of(function, expression, kind)}
        return sorted(list(found))

    def pairs(self):
        """Return the ascending list of the refused pairs of all functions."""
        found = []
        for node in range(len(self.layout.expressions)):
            if self.layout.above[node] < 0:
                found.extend(self.pairs_in(node))
        return sorted(found)

    def is_refused(self, pair):
        """Tell whether two items are those of a refused pair, in its order."""
        one, other = pair
        if not self.has_item(one) or not self.has_item(other):
            return False
        top = self.layout.top_of(one[0])
        return pair in [(first, second) for first, second, _ in self.pairs_in(top)]

    def pairs_in(self, top):
        """Return the list of the refused pairs of a full expression."""
        found = []
        earlier = []
        for node in range(self.layout.firsts[top], top + 1):
            for kind in kinds_of(self.layout.expressions[node]):
                item = (node, kind)
                accesses = self.accesses_of(item)
                for other, other_accesses in earlier:
                    names = self.names_met(other, other_accesses, item, accesses)
                    if len(names) > 0 and self.orders.are_unsequenced(other, item):
                        found.append((other, item, min(names)))
                if len(accesses) > 0:
                    earlier.append((item, accesses))
        return found

    def names_met(self, one, one_accesses, other, other_accesses):
        """Return the list of the names in which two items with these accesses may meet."""
        names = []
        for name, sort in one_accesses:
            for other_name, other_sort in other_accesses:
                if name == other_name and "write" in (sort, other_sort) and not self.are_apart(one, other):
                    names.append(name)
        return names

    def are_apart(self, one, other):
        """Tell whether two items access cells with two different numbers written as indices.

        Each of them accesses nothing else then, so that they do not meet at all.
        """
        first = written_index(self.layout.expressions[one[0]])
        second = written_index(self.layout.expressions[other[0]])
        return first >= 0 and second >= 0 and first != second


def kinds_of(expression):
    """Return the kinds of the items of a node, ascending."""
    if expression[0] in WRITING:
        return ["step", "write"]
    kind = own_kind(expression)
    return [kind] if kind != "" else []


def written_index(expression):
    """Return the number that is written as the index of a cell that a node accesses, or -1."""
    if expression[0] in WRITING:
        expression = expression[1]
    if expression[0] == "item" and expression[2][0] == "num":
        return expression[2][1]
    return -1
