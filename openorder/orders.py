"""The order of the ITEMs in the full expressions of a program, by the nodes of the program."""

from openorder.masks import places_in
from openorder.ordering import Ordering
from openorder.shapes import CHOOSING, is_marked, own_kind


class Orders:
    """Keeps the order of each full expression that was asked for; two ITEMs are always of one.

    ahead keeps what ahead_of tells. Turns are kept as twice their nodes, writes as one more.
    """

    def __init__(self, layout):
        self.layout = layout
        self.made = {}
        self.ahead = {}

    def ordering_of(self, top):
        """Return the order of a full expression, its nodes numbered from 0."""
        if top not in self.made:
            self.made[top] = Ordering(self.layout.expressions[top])
        return self.made[top]

    def place_in(self, top, item):
        """Return the place of an ITEM in the order of its full expression."""
        node, kind = item
        return self.ordering_of(top).places[(node - self.layout.firsts[top], kind)]

    def must_come_before(self, one, other):
        """Tell whether one ITEM must come before the other."""
        top = self.layout.top_of(one[0])
        return self.ordering_of(top).comes_before(self.place_in(top, one), self.place_in(top, other))

    def are_unsequenced(self, one, other):
        """Tell whether two different ITEMs are unsequenced."""
        top = self.layout.top_of(one[0])
        return self.ordering_of(top).is_unsequenced(self.place_in(top, one), self.place_in(top, other))

    def item_at(self, number):
        """Return the ITEM of a turn."""
        node = number // 2
        if number > node + node:
            return (node, "write")
        return (node, own_kind(self.layout.expressions[node]))

    def bit_of(self, number, top):
        """Return the mask of a turn in a full expression: the place of its one counts from the first node."""
        return 1 << number - 2 * self.layout.firsts[top]

    def ahead_of(self, number, top):
        """Return the mask of the turns that must come before one, and of itself."""
        if number not in self.ahead:
            ordering = self.ordering_of(top)
            place = self.place_in(top, self.item_at(number))
            mask = 0
            for earlier in places_in(ordering.before[place] | 1 << place):
                node, kind = ordering.listed[earlier]
                mask |= 1 << node + node + (1 if kind == "write" else 0)
            self.ahead[number] = mask
        return self.ahead[number]

    def is_bound(self, node):
        """Tell whether the call of a node is unsequenced with nothing in its full expression."""
        expressions, above = self.layout.expressions, self.layout.above
        while above[node] >= 0:
            upper = above[node]
            if expressions[upper][0] not in CHOOSING and not is_marked(expressions[upper]):
                for part in self.layout.parts[upper]:
                    if part != node and expressions[part][0] not in ("num", "ref"):
                        return False
            node = upper
        return True
