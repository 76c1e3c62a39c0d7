"""Programs checked without running them."""

from openorder.errors import NoItem
from openorder.refusals import Refusals


def may_access(program, item):
    """Return the ascending list of the pairs (name, sort) of all that the item may access."""
    refusals = Refusals(program)
    if not refusals.has_item(item):
        raise NoItem(item)
    return refusals.accesses_of(item)


def refused(program):
    """Return the ascending list of the refused pairs of all functions."""
    return Refusals(program).pairs()


def first_refused(program):
    """Return the first refused pair, or None."""
    pairs = refused(program)
    return pairs[0] if len(pairs) > 0 else None


def is_let_by(program):
    """Tell whether there is no refused pair."""
    return first_refused(program) is None
