"""Programs as code: rows with temporaries written once, or with few registers."""

from openorder.coding import Coder
from openorder.layout import Layout
from openorder.planning import ways_of
from openorder.shapes import declared_in
from openorder.temporaries import Fresh, Registers
from openorder.tuples import tuples_of


def rows_of(program):
    """Return CODE from left to right, in which each temporary is written by one ROW only."""
    entries, functions = tuples_of(program)
    layout = Layout((entries, functions))
    coders = [Coder(layout, Fresh(), {}) for _ in functions]
    return (entries, routines_by(coders, functions))


def compiled(program, registers=4):
    """Return CODE with temporaries less than registers, each full expression by its best PLAN."""
    entries, functions = tuples_of(program)
    layout = Layout((entries, functions))
    ways = {}
    for node in range(len(layout.expressions)):
        if layout.above[node] < 0:
            ways.update(ways_of(layout, node, registers))
    coders = [Coder(layout, Registers(registers), ways) for _ in functions]
    return (entries, routines_by(coders, functions))


def routines_by(coders, functions):
    """Return the tuple of the routines of some functions, each written by a coder of its own."""
    routines = []
    for coder, (name, params, body) in zip(coders, functions):
        routines.append((name, params, tuple(declared_in(body)), coder.write_function(name)))
    return tuple(routines)
