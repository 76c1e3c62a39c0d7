"""All runs of a program: how they end, where they part, how many there are."""

from openorder.counting import orders_many
from openorder.errors import Conflicted, Cut
from openorder.graphs import Graph
from openorder.layout import Layout
from openorder.machine import without_noughts
from openorder.meetings import conflict_of, first_meeting
from openorder.trails import Trail


def ends(program, inputs, *, most=200):
    """Return the ascending list of (RESULT, number of runs, least CHOICES) of all runs."""
    graph = Graph(Layout(program), inputs, most)
    told = []
    for result, many in graph.counts[0].items():
        told.append((result, many, without_noughts(graph.least_choices(result))))
    return sorted(told)


def fork(program, inputs, *, most=200):
    """Return the least choices behind which each turn leaves one RESULT, and these, or None."""
    graph = Graph(Layout(program), inputs, most)
    return None if len(graph.counts[0]) == 1 else graph.fork()


def runs_many(program, inputs, choices=(), *, most=2000):
    """Return the number of all runs with these inputs, by one that meets no conflict."""
    trail = Trail(program, inputs, choices, most)
    if trail.is_cut:
        raise Cut(most)
    meeting = first_meeting(trail)
    if meeting is not None:
        raise Conflicted(conflict_of(trail, meeting))
    known = {}
    product_so_far = 1
    for pieces in trail.pieces:
        key = evaluation_of(trail, pieces)
        if key not in known:
            ordering = trail.orders.ordering_of(key[0])
            known[key] = orders_many(ordering.before, key[1])
        product_so_far *= known[key]
    return product_so_far


def evaluation_of(trail, pieces):
    """Return the full expression of an evaluation and the mask of the ITEMs that came in it."""
    top = trail.layout.top_of(trail.turns[pieces[0]][1])
    mask = 0
    for at in pieces:
        mask |= 1 << trail.orders.place_in(top, trail.item_of(at))
    return (top, mask)
