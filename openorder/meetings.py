"""Where the accesses of a run conflict.

A meeting is a triple (earlier, later, home): the places of the turns of two accesses that conflict,
and the number of the evaluation to which both belong.
"""


def levels_of(trail, at):
    """Return the list of the pairs (home, ITEM) to which a turn belongs, itself or by a call."""
    levels = []
    while at >= 0:
        levels.append((trail.homes[at], trail.item_of(at)))
        at = trail.upper_of(at)
    return levels


def first_meeting(trail):
    """Return the meeting of the earliest access that has one, with the last one ahead, or None.

    seen has the masks of the turns that read and that wrote a PLACE, by evaluations and PLACEs. Of
    two turns of one evaluation the later one need not come before the earlier one; so they are
    unsequenced if the earlier one need not come before the later one.
    """
    seen = {}
    chains = {}
    orders, tops = trail.orders, trail.tops
    for at, sight in enumerate(trail.sights):
        if sight is None:
            continue
        place, sort = sight
        home = trail.homes[at]
        if home not in chains:
            chains[home] = chain_above(trail, home, chains)
        for level, number in [(home, trail.numbers[at])] + chains[home]:
            own = orders.bit_of(number, tops[level])
            reads, writes = seen.get((level, place), (0, 0))
            if sort == "read":
                met = writes & ~own
                seen[(level, place)] = (reads | own, writes)
            else:
                met = (reads | writes) & ~own
                seen[(level, place)] = (reads, writes | own)
            if met != 0 and met & ~orders.ahead_of(number, tops[level]) != 0:
                return last_meeting(trail, at)
    return None


def chain_above(trail, home, chains):
    """Return the list of the pairs (home, turn) of the calls through which an evaluation comes about.

    Calls that are unsequenced with nothing are left out. chains keeps what was found out.
    """
    upper = trail.uppers[home]
    if upper < 0:
        return []
    above = trail.homes[upper]
    if above not in chains:
        chains[above] = chain_above(trail, above, chains)
    if trail.orders.is_bound(trail.node_of(upper)):
        return chains[above]
    return [(above, trail.numbers[upper])] + chains[above]


def last_meeting(trail, at):
    """Return the meeting of an access with the last one ahead with which it conflicts."""
    place, sort = trail.sights[at]
    items = dict(levels_of(trail, at))
    for earlier in range(at - 1, -1, -1):
        sight = trail.sights[earlier]
        if sight is None or sight[0] != place or "write" not in (sort, sight[1]):
            continue
        for home, item in levels_of(trail, earlier):
            if home in items and items[home] != item and trail.orders.are_unsequenced(item, items[home]):
                return (earlier, at, home)
    return None


def conflict_of(trail, meeting):
    """Return the CONFLICT of a meeting."""
    earlier, later, home = meeting
    place, sort = trail.sights[earlier]
    return (place, (trail.way(earlier, home), sort), (trail.way(later, home), trail.sights[later][1]))


def conflicts_of(trail):
    """Return the ascending list of all CONFLICTs of a run, without repeats."""
    met = {}
    for at, sight in enumerate(trail.sights):
        if sight is None:
            continue
        place, sort = sight
        for home, item in levels_of(trail, at):
            told = met.setdefault((home, place), {})
            ways = told.setdefault(item, {})
            ways[(trail.way(at, home), sort)] = True
    found = {}
    for key, told in met.items():
        for one, other in conflicts_among(trail.orders, told):
            found[(key[1], one, other)] = True
    return sorted(list(found))


def conflicts_among(orders, told):
    """Return the pairs of accesses that conflict, among those to one PLACE in one evaluation.

    told has their ways and sorts by their ITEMs, in the order in which these came.
    """
    pairs = []
    listed = list(told)
    for at, other in enumerate(listed):
        for one in listed[:at]:
            if not orders.are_unsequenced(one, other):
                continue
            for earlier in told[one]:
                for later in told[other]:
                    if "write" in (earlier[1], later[1]):
                        pairs.append((earlier, later))
    return pairs
