"""The least sets of nodes that have a node of each of some ways.

Ways lie in one full expression: a way has all nodes that can be marked on the path from its lowest
node, the bottom, up to its highest one, the summit. So of the ways that lead up from one node, a
mark that is met by the one with the lowest summit is met by all others, too; only this summit need
be known of what is in a node. A count is a dict of pairs (marks, many) by such summits, -1 for none:
the fewest marks in the node, and the number of the choices of so many.
"""

NONE = -1


class Hitting:
    """The ways in one full expression."""

    def __init__(self, layout, top, ways):
        self.layout = layout
        self.nodes = list(range(layout.firsts[top], top + 1))
        self.summits = {}
        self.markable = {}
        for way in ways:
            bottom, summit = way[0], way[-1]
            self.summits[bottom] = min(summit, self.summits.get(bottom, summit))
            for node in way:
                self.markable[node] = True

    def fewest(self, forced):
        """Return the fewest marks and the number of the sets of so many, as a pair; None if none is.

        forced tells of some nodes whether they are marked.
        """
        counts = {}
        for node in self.nodes:
            count = {NONE: (0, 1)}
            for part in self.layout.parts[node]:
                count = both(count, counts[part])
            counts[node] = self.with_node(node, count, forced)
        return counts[self.nodes[-1]].get(NONE, None)

    def with_node(self, node, count, forced):
        """Return the count of a node by the one of its parts."""
        found = {}
        for summit, (marks, many) in count.items():
            if node in self.markable and forced.get(node, True):
                add_to(found, NONE, marks + 1, many)
            if forced.get(node, False):
                continue
            left = lower(summit, self.summits.get(node, NONE))
            if left != node:
                add_to(found, left, marks, many)
        return found

    def sets(self, most):
        """Return the ascending list of the first least sets, at most so many, as ascending tuples."""
        found = []
        best = self.fewest({})
        self.add_sets([], {}, best[0], most, found)
        return found

    def add_sets(self, chosen, forced, marks, most, found):
        """Add the least sets that begin with the chosen nodes; forced has all up to the last one."""
        if len(chosen) == marks:
            found.append(tuple(chosen))
            return
        forced = {node: forced[node] for node in forced}
        for node in sorted(list(self.markable)):
            if node in forced or len(found) == most:
                continue
            forced[node] = True
            if self.is_least(forced, marks):
                self.add_sets(chosen + [node], forced, marks, most, found)
            forced[node] = False

    def is_least(self, forced, marks):
        """Tell whether a set with so many marks agrees with what is forced."""
        count = self.fewest(forced)
        return count is not None and count[0] == marks


def lower(one, other):
    """Return the lower one of two summits."""
    if one == NONE:
        return other
    return one if other == NONE else min(one, other)


def both(one, other):
    """Return the count of two parts together."""
    found = {}
    for summit, (marks, many) in one.items():
        for other_summit, (other_marks, other_many) in other.items():
            add_to(found, lower(summit, other_summit), marks + other_marks, many * other_many)
    return found


def add_to(count, summit, marks, many):
    """Add choices to a count, which keeps the fewest marks only."""
    if summit not in count or marks < count[summit][0]:
        count[summit] = (marks, many)
    elif marks == count[summit][0]:
        count[summit] = (marks, many + count[summit][1])
