"""Marks that mend a program."""

from openorder.errors import NoMark, NoPair, TooMany
from openorder.hitting import Hitting
from openorder.layout import Layout
from openorder.marking import Marker, can_be_marked, way_of
from openorder.refusals import Refusals
from openorder.tuples import tuples_of

MOST_MENDS = 300


def way(program, one, other):
    """Return the ascending tuple of the nodes of which a mark, by itself, orders a refused pair."""
    refusals = Refusals(program)
    pair = tuples_of((one, other))
    if not refusals.is_refused(pair):
        raise NoPair(pair)
    return way_of(refusals.layout, pair[0], pair[1])


def marks_needed(program):
    """Return how many nodes the mends with the fewest nodes have."""
    return sum([hitting.fewest({})[0] for hitting in hittings_of(program)])


def least_many(program):
    """Return how many mends with the fewest nodes there are."""
    return product_of([hitting.fewest({})[1] for hitting in hittings_of(program)])


def least_mends(program):
    """Return the ascending list of the mends with the fewest nodes; raise TooMany(many) for many."""
    hittings = hittings_of(program)
    many = product_of([hitting.fewest({})[1] for hitting in hittings])
    if many > MOST_MENDS:
        raise TooMany(many)
    mends = [()]
    for hitting in hittings:
        sets = hitting.sets(MOST_MENDS)
        mends = [mend + more for mend in mends for more in sets]
    return mends


def first_mend(program):
    """Return the first of the mends with the fewest nodes."""
    mend = ()
    for hitting in hittings_of(program):
        mend = mend + hitting.sets(1)[0]
    return mend


def mended(program, nodes):
    """Return the PROGRAM with marks at these nodes, too; raise NoMark(node) for the least wrong one."""
    layout = Layout(program)
    for node in sorted(nodes):
        if not 0 <= node < len(layout.expressions) or not can_be_marked(layout, node):
            raise NoMark(node)
    entries, functions = tuples_of(program)
    return (entries, Marker({node: True for node in nodes}).write_functions(functions))


def hittings_of(program):
    """Return the ways of the refused pairs, by full expressions, those without one left out."""
    refusals = Refusals(program)
    ways = {}
    for one, other, _ in refusals.pairs():
        top = refusals.layout.top_of(one[0])
        ways.setdefault(top, []).append(way_of(refusals.layout, one, other))
    return [Hitting(refusals.layout, top, ways[top]) for top in sorted(list(ways))]


def product_of(numbers):
    """Return the product of some numbers."""
    found = 1
    for number in numbers:
        found *= number
    return found
