"""How many orders ITEMs have in which each comes behind all that must come before it."""

from math import comb

from openorder.errors import TooMany
from openorder.masks import places_in
from openorder.most import MOST_SETS


def orders_many(before, mask):
    """Return the number of the orders of the ITEMs of a mask; before has those that must come before each.

    Raises TooMany if there are too many sets of ITEMs that have, with each, all that must come before it.
    """
    sets_many, orders = Counter(before, mask).count(mask)
    if sets_many > MOST_SETS:
        raise TooMany(MOST_SETS)
    return orders


class Counter:
    """Counts the orders of ITEMs, and the sets of them behind which others may come.

    ahead has, for each ITEM, the mask of those that must come before it, bound that of those that
    must come before or behind it, loose that of all others.
    """

    def __init__(self, before, mask):
        places = places_in(mask)
        self.ahead = {place: before[place] & mask for place in places}
        self.bound = dict(self.ahead)
        for place in places:
            for earlier in places_in(self.ahead[place]):
                self.bound[earlier] |= 1 << place
        self.loose = {place: mask & ~self.bound[place] & ~(1 << place) for place in places}

    def count(self, mask):
        """Return the pair of the number of the sets of the ITEMs of a mask and that of their orders."""
        groups = groups_in(mask, self.bound)
        if len(groups) > 1:
            return self.count_side_by_side(groups)
        groups = groups_in(mask, self.loose)
        if len(groups) > 1:
            return self.count_in_turn(groups)
        return self.count_one_by_one(mask)

    def count_side_by_side(self, groups):
        """Return the same for groups of which none must come before another one."""
        many = 0
        sets_many, orders = 1, 1
        for group in groups:
            size = len(places_in(group))
            many += size
            group_sets, group_orders = self.count(group)
            sets_many *= group_sets
            orders *= group_orders * comb(many, size)
        return sets_many, orders

    def count_in_turn(self, groups):
        """Return the same for groups that must come one after another."""
        sets_many, orders = 1, 1
        for group in groups:
            group_sets, group_orders = self.count(group)
            sets_many += group_sets - 1
            orders *= group_orders
        return sets_many, orders

    def count_one_by_one(self, mask):
        """Return the same by going over all sets; raise TooMany if these alone are too many."""
        ways = {0: 1}
        sets_many = 1
        places = places_in(mask)
        for _ in places:
            ways = self.one_more(mask, places, ways)
            sets_many += len(ways)
            if sets_many > MOST_SETS:
                raise TooMany(MOST_SETS)
        return sets_many, ways[mask]

    def one_more(self, mask, places, ways):
        """Return the sets with one more ITEM, with the numbers of the orders in which they come about."""
        larger = {}
        for done, many in ways.items():
            for place in places:
                if done >> place & 1 == 0 and self.ahead[place] & mask & ~done == 0:
                    taken = done | 1 << place
                    larger[taken] = larger.get(taken, 0) + many
        return larger


def groups_in(mask, links):
    """Return the list of the parts of a mask that hang together by links, as masks."""
    groups = []
    while mask > 0:
        group = 0
        reached = mask & -mask
        while reached > 0:
            last = reached & -reached
            group |= last
            reached = (reached | links[last.bit_length() - 1] & mask) & ~group
        groups.append(group)
        mask &= ~group
    return groups
