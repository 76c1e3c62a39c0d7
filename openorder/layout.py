"""A program with its nodes numbered and its bodies laid out as rows."""

from openorder.shapes import CHOOSING, chosen_part, may_block, parts_of


class Layout:
    """The nodes of a program, in lists by their numbers, and the rows of its functions.

    A row is ("do", node), ("return", node), ("unless", node, row) or ("jump", node, row): the node is
    the last one of a full expression, of a jump that of its if or while; the row is that at which a
    body goes on, for unless if it is 0. The nodes in an expression are those from its first one to
    itself; above is -1 for a full one; declared has the last nodes of declarations.
    """

    def __init__(self, program):
        entries, functions = program
        self.entries = entries
        self.expressions = []
        self.parts = []
        self.firsts = []
        self.above = []
        self.declared = {}
        self.sizes = {entry[1]: entry[2] for entry in entries if entry[0] == "array"}
        self.params = {}
        self.rows = {}
        self.ends = {}
        self.constants = {}
        self.openings = {}
        self.beginnings = {}
        for name, params, body in functions:
            rows = []
            self.lay_body(body, rows)
            self.params[name] = [param for _, param in params]
            self.rows[name] = rows
            self.ends[name] = len(self.expressions)

    def lay_body(self, body, rows):
        """Add the rows of a body."""
        for statement in body:
            self.lay_statement(statement, rows)

    def lay_statement(self, statement, rows):
        """Add the rows of a statement."""
        word = statement[0]
        if word == "let":
            node = self.lay_expression(("set", ("var", statement[2]), statement[3], 0))
            self.declared[node] = True
            rows.append(("do", node))
        elif word in ("do", "return"):
            rows.append((word, self.lay_expression(statement[1])))
        else:
            self.lay_branch(statement, rows)

    def lay_branch(self, statement, rows):
        """Add the rows of an if or a while; the first one leads behind its first body."""
        at = len(rows)
        node = self.lay_expression(statement[1])
        rows.append(("unless", node, at))
        self.lay_body(statement[2], rows)
        if statement[0] == "while":
            rows.append(("jump", node, at))
            rows[at] = ("unless", node, len(rows))
            return
        behind = len(rows)
        rows.append(("jump", node, behind))
        rows[at] = ("unless", node, len(rows))
        self.lay_body(statement[3], rows)
        rows[behind] = ("jump", node, len(rows))

    def lay_expression(self, expression):
        """Number the parts of an expression and then itself; return its node."""
        first = len(self.expressions)
        parts = parts_of(expression)
        node = first
        if len(parts) > 0:
            parts = tuple([self.lay_expression(part) for part in parts])
            node = len(self.expressions)
            for part in parts:
                self.above[part] = node
        self.expressions.append(expression)
        self.parts.append(parts)
        self.firsts.append(first)
        self.above.append(-1)
        return node

    def top_of(self, node):
        """Return the last node of the full expression in which a node is."""
        while self.above[node] >= 0:
            node = self.above[node]
        return node

    def constants_in(self, top):
        """Return the dict of the values of the numbers and references in a full expression.

        What is needed of an expression only while it is evaluated is found out when it is first
        asked for, since many runs do not come to most expressions.
        """
        if top not in self.constants:
            found = {}
            for node in range(self.firsts[top], top + 1):
                expression = self.expressions[node]
                if expression[0] == "num":
                    found[node] = expression[1]
                elif expression[0] == "ref":
                    found[node] = (expression[1], 0)
            self.constants[top] = found
        return self.constants[top]

    def beginning_of(self, top):
        """Return what a full expression begins with: what constants_in tells, and the list of its turns.

        Turns are told as twice their nodes; None in the place of the list if one of them may block.
        """
        opened = self.opened_by(top)
        turns = [node + node for node in opened]
        if any([may_block(self.expressions[node]) for node in opened]):
            turns = None
        return (self.constants_in(top), turns)

    def opened_by(self, node):
        """Return the nodes whose own steps wait for nothing when a node begins, in their order."""
        if node not in self.openings:
            self.openings[node] = self.openings_of(node, self.parts[node])
        return self.openings[node]

    def openings_of(self, node, parts):
        """Return what opened_by keeps."""
        expression = self.expressions[node]
        if expression[0] in ("num", "ref"):
            return []
        opened = []
        if expression[0] in CHOOSING:
            opened = self.openings_of_chosen(expression[0], parts)
        elif len(parts) > 0:
            is_in_turn = expression[-1] == 1
            for part in parts:
                if len(opened) == 0 or not is_in_turn:
                    opened = opened + self.opened_by(part)
        return opened if len(opened) > 0 else [node]

    def openings_of_chosen(self, word, parts):
        """Return the same for the parts of a node that begins its first one and then a chosen one."""
        opened = self.opened_by(parts[0])
        if len(opened) > 0:
            return opened
        first = self.constants_in(self.top_of(parts[0]))[parts[0]]
        chosen = chosen_part(word, first, parts)
        return self.opened_by(chosen) if chosen is not None else []
