"""Runs looked at from outside: all runs of a program, and the conflicts of one, by trying all pairs."""

from openorder.machine import choices_of, possible, turns
from openorder.nodes import node_at, parts_at, top_at
from openorder.sequence import unsequenced
from openorder.watcher import accesses


def all_runs(program, inputs, most_runs, most=60):
    """Return the CHOICES, one for each turn, of all runs; None if there are more or a run is longer."""
    found = []
    begun = [[]]
    while begun:
        choices = begun.pop()
        offers = possible(program, inputs, choices)
        if len(choices) > most or len(found) + len(begun) > most_runs:
            return None
        if not offers:
            found.append(choices)
        begun.extend(choices + [place] for place in range(len(offers)))
    return found


def told_choices(program, inputs, choices):
    """Return the CHOICES as they are returned: only indices that are there, no 0 at the end."""
    return choices_of(program, inputs, turns(program, inputs, choices))


def first_node(program, node):
    """Return the first node in the expression of a node."""
    while parts_at(program, node):
        node = parts_at(program, node)[0]
    return node


class Body:
    """A running body, as the turns tell it."""

    def __init__(self):
        self.evaluation = None
        self.top = None
        self.items = set()


def chains_of(program, done):
    """Return, for each TURN, its pairs (evaluation, ITEM) from main's inwards.

    A new evaluation begins with a turn of another full expression, or one that was there already.
    """
    chains = []
    bodies = []
    evaluations = 0
    for depth, node, kind in done:
        del bodies[depth + 1:]
        if len(bodies) == depth:
            bodies.append(Body())
        body = bodies[depth]
        top = top_at(program, node)
        if body.top != top or (node, kind) in body.items:
            body.evaluation, body.top, body.items = evaluations, top, set()
            evaluations += 1
        body.items.add((node, kind))
        body.last = (node, kind)
        chains.append([(told.evaluation, told.last) for told in bodies])
    return chains


def are_unsequenced(program, one, other):
    """Tell whether two ITEMs of one full expression are unsequenced."""
    top = top_at(program, one[0])
    first = first_node(program, top)
    pair = sorted([(one[0] - first, one[1]), (other[0] - first, other[1])])
    return tuple(pair) in unsequenced(node_at(program, top))


def meetings(program, inputs, choices, most=2000):
    """Return the list of (later turn, earlier turn, CONFLICT) of all pairs of accesses that conflict."""
    chains = chains_of(program, turns(program, inputs, choices, most=most))
    seen = accesses(program, inputs, choices, most=most)
    found = []
    for at, (later, place, sort) in enumerate(seen):
        for earlier, other_place, other_sort in seen[:at]:
            if place != other_place or "write" not in (sort, other_sort):
                continue
            level = 0
            while chains[earlier][level] == chains[later][level]:
                level += 1
            one, other = chains[earlier][level], chains[later][level]
            if one[0] == other[0] and are_unsequenced(program, one[1], other[1]):
                ways = [tuple(item[0] for _, item in chains[turn][level:]) for turn in (earlier, later)]
                found.append((later, earlier, (place, (ways[0], other_sort), (ways[1], sort))))
    return found


def conflicts_by_pairs(program, inputs, choices, most=2000):
    """Return the ascending list of the CONFLICTs of a run."""
    return sorted({conflict for _, _, conflict in meetings(program, inputs, choices, most)})


def first_by_pairs(program, inputs, choices, most=2000):
    """Return the first CONFLICT of a run or None."""
    found = meetings(program, inputs, choices, most)
    return min(found, key=lambda told: (told[0], -told[1]))[2] if found else None
