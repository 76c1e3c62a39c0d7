"""The ITEMs of an expression and which of them must come before which."""

from openorder.masks import places_in
from openorder.shapes import CHOOSING, WRITING, is_marked, own_kind, parts_of
from openorder.tuples import tuples_of


class Ordering:
    """The order of the ITEMs of one expression, taken by itself.

    Sets of ITEMs are masks: integers that have a one for each of them, at its place in the
    ascending list of all. Whatever must come before an ITEM stands ahead of it in this list.
    """

    def __init__(self, expression):
        self.listed = []
        self.before = []
        self.parted = []
        self.steps = 0
        self.node_many = 0
        self.add_expression(tuples_of(expression))
        self.follow_chains()
        self.places = {item: place for place, item in enumerate(self.listed)}

    def add_expression(self, expression):
        """Add the ITEMs of the parts and then the own ones; return the mask of all of them."""
        masks = [self.add_expression(part) for part in parts_of(expression)]
        node = self.node_many
        self.node_many += 1
        self.order_parts(expression, masks)
        within = 0
        for mask in masks:
            within |= mask
        kind = own_kind(expression)
        if kind == "":
            return within
        ahead = within & self.steps
        if expression[0] in CHOOSING:
            ahead |= masks[0]
        if kind == "call" or is_marked(expression):
            ahead = within
        step = self.add_item((node, kind), ahead)
        self.steps |= step
        if expression[0] not in WRITING:
            return within | step
        return within | step | self.add_item((node, "write"), step)

    def add_item(self, item, ahead):
        """Add an ITEM, before which come those of a mask; return its own mask."""
        self.listed.append(item)
        self.before.append(ahead)
        self.parted.append(0)
        return 1 << len(self.listed) - 1

    def order_parts(self, expression, masks):
        """Order the ITEMs of different parts, where these do not begin side by side."""
        if expression[0] in CHOOSING:
            for mask in masks[1:]:
                self.put_ahead(masks[0], mask)
        if expression[0] == "cond":
            self.part(masks[1], masks[2])
            self.part(masks[2], masks[1])
        if is_marked(expression):
            earlier = 0
            for mask in masks:
                self.put_ahead(earlier, mask)
                earlier |= mask

    def put_ahead(self, earlier, later):
        """Put all ITEMs of one mask before all of another."""
        for place in places_in(later):
            self.before[place] |= earlier

    def part(self, one, other):
        """Keep that the ITEMs of one mask and those of another never come in one run."""
        for place in places_in(one):
            self.parted[place] |= other

    def follow_chains(self):
        """Add what comes before those that come before an ITEM."""
        for place, direct in enumerate(list(self.before)):
            for earlier in places_in(direct):
                self.before[place] |= self.before[earlier]

    def comes_before(self, one, other):
        """Tell whether the ITEM at one place must come before that at another."""
        return self.before[other] >> one & 1 == 1

    def is_unsequenced(self, one, other):
        """Tell whether two ITEMs at different places are unsequenced."""
        if self.comes_before(one, other) or self.comes_before(other, one):
            return False
        return self.parted[one] >> other & 1 == 0

    def may_come(self, place, done):
        """Tell whether an ITEM is not in a mask, but all that must come before it is."""
        return done >> place & 1 == 0 and self.before[place] & done == self.before[place]
