"""The order of the ITEMs in the full expressions of a program, by the nodes of the program."""

from openorder.ordering import Ordering


class Orders:
    """Keeps the order of each full expression that was asked for; two ITEMs are always of one."""

    def __init__(self, layout):
        self.layout = layout
        self.made = {}

    def ordering_of(self, top):
        """Return the order of a full expression, its nodes numbered from 0."""
        if top not in self.made:
            self.made[top] = Ordering(self.layout.expressions[top])
        return self.made[top]

    def place_in(self, top, item):
        """Return the place of an ITEM in the order of its full expression."""
        node, kind = item
        return self.ordering_of(top).places[(node - self.layout.firsts[top], kind)]

    def must_come_before(self, one, other):
        """Tell whether one ITEM must come before the other."""
        top = self.layout.top_of(one[0])
        return self.ordering_of(top).comes_before(self.place_in(top, one), self.place_in(top, other))

    def are_unsequenced(self, one, other):
        """Tell whether two different ITEMs are unsequenced."""
        top = self.layout.top_of(one[0])
        return self.ordering_of(top).is_unsequenced(self.place_in(top, one), self.place_in(top, other))
