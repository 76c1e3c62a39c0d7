"""The PLANs of an expression: which part is worked out first, and how its value is held."""

from openorder.shapes import is_marked, parts_of, parts_of_place
from openorder.tuples import tuples_of

IMPOSSIBLE = 1000000


class Plans:
    """All PLANs of one expression, its nodes numbered from 0.

    ways has, for each pair node, its pairs (first, "keep" or "spill"), ascending.
    """

    def __init__(self, expression):
        self.parts = []
        self.own = []
        self.has_call = []
        self.ways = {}
        self.top = self.add_expression(tuples_of(expression))

    def add_expression(self, expression):
        """Add the nodes of an expression; return the last one."""
        parts = [self.add_expression(part) for part in parts_of(expression)]
        node = len(self.parts)
        self.parts.append(parts)
        self.own.append(own_number(expression))
        self.has_call.append(expression[0] == "call" or any([self.has_call[part] for part in parts]))
        if is_pair(expression):
            self.ways[node] = []
            for first in (0,) if is_marked(expression) else (0, 1):
                if not self.has_call[parts[1 - first]]:
                    self.ways[node].append((first, "keep"))
                self.ways[node].append((first, "spill"))
        return node

    def spills(self, registers, fixed):
        """Return the fewest spills of the PLANs with at most so many registers, or IMPOSSIBLE.

        fixed has the ways of some pair nodes.
        """
        return self.spills_in(self.top, registers, fixed, {})

    def spills_in(self, node, registers, fixed, known):
        """Return the same for the PLANs of a part; known keeps what was found out."""
        if (node, registers) in known:
            return known[(node, registers)]
        if registers < self.own[node]:
            fewest = IMPOSSIBLE
        elif node in self.ways:
            ways = [fixed[node]] if node in fixed else self.ways[node]
            fewest = min([self.spills_by(way, node, registers, fixed, known) for way in ways])
        else:
            fewest = sum([self.spills_in(part, registers, fixed, known) for part in self.parts[node]])
        known[(node, registers)] = fewest
        return fewest

    def spills_by(self, way, node, registers, fixed, known):
        """Return the same for the PLANs that have this way at a pair node."""
        first, other = self.parts[node]
        if way[0] == 1:
            first, other = other, first
        ahead = self.spills_in(first, registers, fixed, known)
        if way[1] == "keep":
            return ahead + self.spills_in(other, registers - 1, fixed, known)
        return ahead + self.spills_in(other, registers, fixed, known) + 1

    def best(self, registers):
        """Return the least PLAN with at most so many registers and the fewest spills of these."""
        fewest = self.spills(registers, {})
        fixed = {}
        for node in sorted(list(self.ways)):
            fixed[node] = self.first_way(node, registers, fewest, fixed)
        return [(node, fixed[node][0], fixed[node][1]) for node in fixed]

    def first_way(self, node, registers, fewest, fixed):
        """Return the first way of a pair node with which there is a PLAN with the fewest spills."""
        tried = {other: fixed[other] for other in fixed}
        for way in self.ways[node]:
            tried[node] = way
            if self.spills(registers, tried) == fewest:
                return way
        return self.ways[node][-1]

    def need(self):
        """Return the fewest registers of the PLANs with as few spills as any has."""
        fewest = self.spills(len(self.parts) + 3, {})
        registers = 1
        while self.spills(registers, {}) != fewest:
            registers += 1
        return registers


def is_pair(expression):
    """Tell whether a node is a pair node."""
    if expression[0] == "op":
        return True
    return expression[0] in ("set", "add") and len(parts_of_place(expression[1])) > 0


def own_number(expression):
    """Return the own number of a node."""
    if expression[0] in ("add", "inc"):
        return 3 if len(parts_of_place(expression[1])) > 0 else 2
    return 2 if is_pair(expression) else 1
