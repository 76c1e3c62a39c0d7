"""A program with its nodes numbered and its bodies laid out as rows."""

from openorder.shapes import parts_of
from openorder.tuples import tuples_of


class Layout:
    """The nodes of a program, in lists by their numbers, and the rows of its functions.

    A row is ("do", node), ("return", node), ("unless", node, row) or ("jump", row): the node is the
    last one of a full expression, the row is that at which a body goes on, for unless if it is 0.
    """

    def __init__(self, program):
        entries, functions = tuples_of(program)
        self.entries = entries
        self.expressions = []
        self.parts = []
        self.tops = []
        self.sizes = {entry[1]: entry[2] for entry in entries if entry[0] == "array"}
        self.params = {}
        self.rows = {}
        for name, params, body in functions:
            rows = []
            self.lay_body(body, rows)
            self.params[name] = [param for _, param in params]
            self.rows[name] = rows

    def lay_body(self, body, rows):
        """Add the rows of a body."""
        for statement in body:
            self.lay_statement(statement, rows)

    def lay_statement(self, statement, rows):
        """Add the rows of a statement."""
        word = statement[0]
        if word == "let":
            rows.append(("do", self.lay_full(("set", ("var", statement[2]), statement[3], 0))))
        elif word in ("do", "return"):
            rows.append((word, self.lay_full(statement[1])))
        else:
            self.lay_branch(statement, rows)

    def lay_branch(self, statement, rows):
        """Add the rows of an if or a while; the first one leads behind its first body."""
        at = len(rows)
        node = self.lay_full(statement[1])
        rows.append(("unless", node, at))
        self.lay_body(statement[2], rows)
        if statement[0] == "while":
            rows.append(("jump", at))
            rows[at] = ("unless", node, len(rows))
            return
        behind = len(rows)
        rows.append(("jump", behind))
        rows[at] = ("unless", node, len(rows))
        self.lay_body(statement[3], rows)
        rows[behind] = ("jump", len(rows))

    def lay_full(self, expression):
        """Number the nodes of a full expression and return the last one."""
        node = self.lay_expression(expression)
        self.tops.extend([node] * (node + 1 - len(self.tops)))
        return node

    def lay_expression(self, expression):
        """Number the parts of an expression and then itself; return its node."""
        parts = tuple([self.lay_expression(part) for part in parts_of(expression)])
        self.expressions.append(expression)
        self.parts.append(parts)
        return len(self.expressions) - 1

    def constants(self, top):
        """Return a dict of the values of the numbers and references in a full expression."""
        found = {}
        node = top
        while node >= 0 and self.tops[node] == top:
            expression = self.expressions[node]
            if expression[0] == "num":
                found[node] = expression[1]
            elif expression[0] == "ref":
                found[node] = (expression[1], 0)
            node -= 1
        return found
