"""The nodes of a program, asked for by their numbers."""

from openorder.errors import NoNode
from openorder.layout import Layout


def node_many(program):
    """Return how many nodes there are."""
    return len(Layout(program).expressions)


def node_at(program, node):
    """Return the expression with this node, of a declaration a set."""
    return looked_up(Layout(program).expressions, node)


def parts_at(program, node):
    """Return the tuple of the nodes of the parts of a node."""
    return looked_up(Layout(program).parts, node)


def top_at(program, node):
    """Return the last node of the full expression in which a node is."""
    return looked_up(Layout(program).tops, node)


def looked_up(listed, node):
    """Return what a list has for a node; raise NoNode(node) if there is no such node."""
    if not 0 <= node < len(listed):
        raise NoNode(node)
    return listed[node]
