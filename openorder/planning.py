"""The best PLANs of the full expressions of a program, by the nodes of the program."""

from openorder.needs import best_plan


def ways_of(layout, top, registers):
    """Return the dict of (first, "keep" or "spill") by the pair nodes of a full expression."""
    begin = layout.firsts[top]
    ways = {}
    for node, first, way in best_plan(layout.expressions[top], registers):
        ways[begin + node] = (first, way)
    return ways


def ranks_of(layout, top, registers):
    """Return the dict of the places that the nodes of a full expression have in the order of its plan."""
    ranks = {}
    add_ranks(layout, top, ways_of(layout, top, registers), ranks)
    return ranks


def add_ranks(layout, node, ways, ranks):
    """Rank the nodes in a part and then itself; of a pair node the part worked out first first."""
    parts = layout.parts[node]
    if node in ways and ways[node][0] == 1:
        parts = (parts[1], parts[0])
    for part in parts:
        add_ranks(layout, part, ways, ranks)
    ranks[node] = len(ranks)
