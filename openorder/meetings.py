"""Where the accesses of a run conflict.

A meeting is a triple (earlier, later, home): the places of the turns of two accesses that conflict,
and the number of the evaluation to which both belong.
"""


def levels_of(trail, at):
    """Return the list of the pairs (home, ITEM) to which a turn belongs, itself or by a call."""
    levels = []
    while at >= 0:
        levels.append((trail.homes[at], trail.item_of(at)))
        at = trail.upper_of(at)
    return levels


def first_meeting(trail):
    """Return the meeting of the earliest access that has one, with the last one ahead, or None."""
    seen = {}
    for at, sight in enumerate(trail.sights):
        if sight is None:
            continue
        place, sort = sight
        levels = levels_of(trail, at)
        earlier, home = -1, -1
        for level in levels:
            told = seen.get((level[0], place), {})
            last = last_meeting(trail.orders, told, level[1], sort)
            if last > earlier:
                earlier, home = last, level[0]
        if earlier >= 0:
            return (earlier, at, home)
        for level in levels:
            told = seen.setdefault((level[0], place), {})
            told[(level[1], sort)] = at
    return None


def last_meeting(orders, told, item, sort):
    """Return the place of the last access that one of this ITEM and sort conflicts with, or -1.

    told has the places of the last accesses to its PLACE in one evaluation, by ITEMs and sorts.
    """
    last = -1
    for (other, other_sort), at in told.items():
        if at > last and "write" in (sort, other_sort) and other != item:
            if orders.are_unsequenced(other, item):
                last = at
    return last


def conflict_of(trail, meeting):
    """Return the CONFLICT of a meeting."""
    earlier, later, home = meeting
    place, sort = trail.sights[earlier]
    return (place, (trail.way(earlier, home), sort), (trail.way(later, home), trail.sights[later][1]))


def conflicts_of(trail):
    """Return the ascending list of all CONFLICTs of a run, without repeats."""
    met = {}
    for at, sight in enumerate(trail.sights):
        if sight is None:
            continue
        place, sort = sight
        for home, item in levels_of(trail, at):
            told = met.setdefault((home, place), {})
            ways = told.setdefault(item, {})
            ways[(trail.way(at, home), sort)] = True
    found = {}
    for key, told in met.items():
        for one, other in conflicts_among(trail.orders, told):
            found[(key[1], one, other)] = True
    return sorted(list(found))


def conflicts_among(orders, told):
    """Return the pairs of accesses that conflict, among those to one PLACE in one evaluation.

    told has their ways and sorts by their ITEMs, in the order in which these came.
    """
    pairs = []
    listed = list(told)
    for at, other in enumerate(listed):
        for one in listed[:at]:
            if not orders.are_unsequenced(one, other):
                continue
            for earlier in told[one]:
                for later in told[other]:
                    if "write" in (earlier[1], later[1]):
                        pairs.append((earlier, later))
    return pairs
