"""The nodes of a program, asked for by their numbers."""

from openorder.errors import NoNode
from openorder.layout import Layout
from openorder.tuples import tuples_of


def node_many(program):
    """Return how many nodes there are."""
    return len(Layout(program).expressions)


def node_at(program, node):
    """Return the expression with this node, of a declaration a set."""
    return tuples_of(layout_with(program, node).expressions[node])


def parts_at(program, node):
    """Return the tuple of the nodes of the parts of a node."""
    return layout_with(program, node).parts[node]


def top_at(program, node):
    """Return the last node of the full expression in which a node is."""
    return layout_with(program, node).top_of(node)


def layout_with(program, node):
    """Return the layout of a program; raise NoNode(node) if there is no such node."""
    layout = Layout(program)
    if not 0 <= node < len(layout.expressions):
        raise NoNode(node)
    return layout
