"""All runs of a program: how they end, where they part, how many there are."""

from openorder.counting import orders_many
from openorder.errors import Conflicted, Cut
from openorder.graphs import Graph
from openorder.layout import Layout
from openorder.machine import without_noughts
from openorder.meetings import conflict_of, first_meeting
from openorder.trails import Trail


def ends(program, inputs, *, most=200):
    """Return the ascending list of (RESULT, number of runs, least CHOICES) of all runs."""
    graph = Graph(Layout(program), inputs, most)
    told = []
    for result, many in graph.counts[0].items():
        told.append((result, many, without_noughts(graph.least_choices(result))))
    return sorted(told)


def fork(program, inputs, *, most=200):
    """Return the least choices behind which each turn leaves one RESULT, and these, or None."""
    graph = Graph(Layout(program), inputs, most)
    return None if len(graph.counts[0]) == 1 else graph.fork()


def runs_many(program, inputs, choices=(), *, most=2000):
    """Return the number of all runs with these inputs, by one that meets no conflict."""
    trail = Trail(program, inputs, choices, most)
    if trail.is_cut:
        raise Cut(most)
    meeting = first_meeting(trail)
    if meeting is not None:
        raise Conflicted(conflict_of(trail, meeting))
    known = {}
    product_so_far = 1
    for top, mask in evaluations_of(trail):
        if (top, mask) not in known:
            known[(top, mask)] = orders_many(trail.orders.ordering_of(top).before, mask)
        product_so_far *= known[(top, mask)]
    return product_so_far


def evaluations_of(trail):
    """Return the list of the full expressions of the evaluations and the masks of the ITEMs that came in them."""
    orders = trail.orders
    masks = [0 for _ in trail.tops]
    bits = {}
    for number, home in zip(trail.numbers, trail.homes):
        if number not in bits:
            bits[number] = 1 << orders.place_in(trail.tops[home], orders.item_at(number))
        masks[home] |= bits[number]
    return list(zip(trail.tops, masks))
