"""The order of the ITEMs of one expression, its nodes numbered from 0."""

from openorder.errors import Early
from openorder.ordering import Ordering
from openorder.tuples import tuples_of


def items(expression):
    """Return the ascending list of the ITEMs of an expression."""
    return Ordering(expression).listed


def must_before(expression, one, other):
    """Tell whether one ITEM must come before the other."""
    ordering = Ordering(expression)
    return ordering.comes_before(ordering.places[tuple(one)], ordering.places[tuple(other)])


def unsequenced(expression):
    """Return the ascending list of the pairs of unsequenced ITEMs, the lesser one first."""
    ordering = Ordering(expression)
    pairs = []
    for place, other in enumerate(ordering.listed):
        for earlier in range(place):
            if ordering.is_unsequenced(earlier, place):
                pairs.append((ordering.listed[earlier], other))
    return sorted(pairs)


def is_fixed(expression):
    """Tell whether no ITEMs are unsequenced."""
    return len(unsequenced(expression)) == 0


def ready(expression, done):
    """Return the ascending list of the ITEMs not done before which all is done that must be.

    Raises Early(at) for the first of done that is there already or comes too soon.
    """
    ordering = Ordering(expression)
    mask = 0
    for at, item in enumerate(tuples_of(done)):
        place = ordering.places[item]
        if not ordering.may_come(place, mask):
            raise Early(at)
        mask |= 1 << place
    listed = ordering.listed
    return [listed[place] for place in range(len(listed)) if ordering.may_come(place, mask)]
