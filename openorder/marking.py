"""Which nodes can be marked, which of them order a refused pair, and programs with more marks."""

from openorder.shapes import MARKABLE, PART_PLACES


def can_be_marked(layout, node):
    """Tell whether a node can be marked."""
    if node in layout.declared:
        return False
    return layout.expressions[node][0] in MARKABLE and len(layout.parts[node]) > 0


def way_of(layout, one, other):
    """Return the ascending tuple of the nodes of which a mark, by itself, orders a refused pair."""
    lowest = max(one[0], other[0])
    within = min(one[0], other[0])
    while layout.firsts[lowest] > within:
        lowest = layout.above[lowest]
    if lowest != max(one[0], other[0]):
        return (lowest,)
    nodes = []
    node = within
    while node != lowest:
        node = layout.above[node]
        if can_be_marked(layout, node):
            nodes.append(node)
    return tuple(nodes)


class Marker:
    """Writes a program anew, with marks at some nodes besides those that are there."""

    def __init__(self, nodes):
        self.nodes = nodes
        self.node_many = 0

    def write_functions(self, functions):
        """Return the functions with the marks."""
        return tuple([(name, params, self.write_body(body)) for name, params, body in functions])

    def write_body(self, statements):
        """Return a body with the marks."""
        return tuple([self.write_statement(statement) for statement in statements])

    def write_statement(self, statement):
        """Return a statement with the marks; the last node of a declaration has none."""
        word = statement[0]
        if word == "let":
            value = self.write_expression(statement[3])
            self.node_many += 1
            return ("let", statement[1], statement[2], value)
        first = self.write_expression(statement[1])
        return (word, first) + tuple([self.write_body(inner) for inner in statement[2:]])

    def write_expression(self, expression):
        """Return an expression with the marks."""
        made = list(expression)
        word = expression[0]
        if word in PART_PLACES:
            for place in PART_PLACES[word]:
                made[place] = self.write_expression(expression[place])
        elif word == "call":
            made[2] = tuple([self.write_expression(part) for part in expression[2]])
        else:
            made[1] = self.write_place(expression[1])
            if word != "inc":
                made[2] = self.write_expression(expression[2])
        if self.node_many in self.nodes:
            made[-1] = 1
        self.node_many += 1
        return tuple(made)

    def write_place(self, place):
        """Return an lv with the marks in its part."""
        if place[0] == "item":
            return ("item", place[1], self.write_expression(place[2]), place[3])
        return place if place[0] == "var" else ("at", self.write_expression(place[1]), place[2])
