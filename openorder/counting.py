"""How many orders ITEMs have in which each comes behind all that must come before it."""

from openorder.errors import TooMany
from openorder.masks import places_in
from openorder.most import MOST_SETS


def orders_many(before, mask):
    """Return the number of the orders of the ITEMs of a mask.

    before has the masks of those that must come before each. Goes over all sets of ITEMs that
    have, with each ITEM, all that must come before it; raises TooMany if they are too many.
    """
    places = places_in(mask)
    ways = {0: 1}
    sets_many = 1
    for _ in places:
        ways = one_more(before, mask, places, ways)
        sets_many += len(ways)
        if sets_many > MOST_SETS:
            raise TooMany(MOST_SETS)
    return ways[mask]


def one_more(before, mask, places, ways):
    """Return the sets with one more ITEM, with the numbers of the orders in which they come about."""
    larger = {}
    for done, many in ways.items():
        for place in places:
            if done >> place & 1 == 0 and before[place] & mask & ~done == 0:
                taken = done | 1 << place
                larger[taken] = larger.get(taken, 0) + many
    return larger
