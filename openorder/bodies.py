"""A body at work: the statement that is reached and its full expression so far."""

from openorder.shapes import CHOOSING, DIVIDING, WRITING, array_in, chosen_part

DEEPEST = 11
HINDERED = {"call": True, "item": True, "refitem": True, "set": True, "add": True, "inc": True}
WAITING = {"call": True, "and": True, "or": True, "cond": True, "comma": True}


class Body:
    """One running body of a function.

    worked has the values worked out in the full expression, by nodes; due the writes still due, as
    pairs (PLACE, value); blocked the pairs (node, word) of the blocked steps; failed, by nodes,
    those of the calls whose bodies are blocked for good. possible has the turns that are possible,
    ascending: a turn is kept as twice its node, a write as one more, so they ascend as TURNs do.
    home is the number that a trail gives the evaluation of the full expression, -1 at first.
    """

    def __init__(self, layout, function):
        self.layout = layout
        self.function = function
        self.rows = layout.rows[function]
        self.number = 0
        self.depth = 0
        self.call = -1
        self.variables = {}
        self.returned = None
        self.row = 0
        self.home = -1
        self.top = -1
        self.worked = {}
        self.due = {}
        self.possible = []
        self.blocked = []
        self.failed = {}

    def twin(self):
        """Return a new body in the same state."""
        other = Body(self.layout, self.function)
        other.number = self.number
        other.depth = self.depth
        other.call = self.call
        other.variables = dict(self.variables)
        other.returned = self.returned
        other.row = self.row
        other.home = self.home
        other.top = self.top
        other.worked = dict(self.worked)
        other.due = dict(self.due)
        other.possible = list(self.possible)
        other.blocked = list(self.blocked)
        other.failed = dict(self.failed)
        return other

    def begin_with(self, given):
        """Begin the body with these values of its parameters."""
        self.variables = dict(zip(self.layout.params[self.function], given))
        self.reach(0)

    def reach(self, row):
        """Go on at a row: begin its full expression, or return 0 behind the last row."""
        rows = self.rows
        while row < len(rows) and rows[row][0] == "jump":
            row = rows[row][2]
        if row == len(rows):
            self.returned = 0
            return
        top = rows[row][1]
        self.row = row
        self.home = -1
        self.top = top
        beginnings = self.layout.beginnings
        if top not in beginnings:
            beginnings[top] = self.layout.beginning_of(top)
        constants, turns = beginnings[top]
        self.worked = dict(constants)
        if turns is None:
            self.begin(top)
        else:
            self.possible = list(turns)

    def go_on(self):
        """Go on behind a full expression that is whole."""
        row = self.rows[self.row]
        word = row[0]
        if word == "return":
            self.returned = self.worked[self.top]
        elif word == "unless" and self.worked[self.top] == 0:
            self.reach(row[2])
        else:
            self.reach(self.row + 1)

    def begin(self, node):
        """Begin a node: those in it that wait for nothing are admitted."""
        layout = self.layout
        opened = layout.openings[node] if node in layout.openings else layout.opened_by(node)
        for inner in opened:
            self.admit(inner, layout.expressions[inner])

    def admit(self, node, expression):
        """Take up an own step that waits for nothing: it is possible, or it is blocked."""
        if expression[0] in HINDERED or expression[0] == "op" and expression[1] in DIVIDING:
            word = self.hindrance(node, expression)
            if word != "":
                self.blocked.append((node, word))
                return
        self.offer(node + node)

    def offer(self, turn):
        """Add a turn to the possible ones."""
        possible = self.possible
        if len(possible) == 0 or possible[-1] < turn:
            possible.append(turn)
        elif turn < possible[0]:
            possible.insert(0, turn)
        else:
            possible.append(turn)
            self.possible = sorted(possible)

    def hindrance(self, node, expression):
        """Return the word that tells why an own step blocks, or "" if it can be done."""
        word = expression[0]
        if word == "op":
            return "nought" if self.worked[self.layout.parts[node][1]] == 0 else ""
        if word == "call":
            return "deep" if self.depth >= DEEPEST else ""
        array = array_in(expression)
        if array == "":
            return ""
        index = self.worked[self.layout.parts[node][0]]
        return "" if 0 <= index < self.layout.sizes[array] else "index"

    def finish(self, node, value):
        """Keep the value that an own step gives, and admit what waited only for it."""
        worked = self.worked
        worked[node] = value
        layout = self.layout
        if layout.expressions[node][0] in WRITING:
            self.offer(node + node + 1)
        above = layout.above[node]
        if above < 0:
            return
        expression = layout.expressions[above]
        if expression[0] not in WAITING and expression[-1] != 1:
            for part in layout.parts[above]:
                if part not in worked:
                    return
            self.admit(above, expression)
        elif expression[0] in CHOOSING and node != layout.parts[above][0]:
            self.admit(above, expression)
        elif len(self.due) == 0 or self.has_no_write_due(node):
            self.go_on_above(node, above)

    def written(self, node):
        """Admit what waited only for a write, which is no longer due."""
        above = self.layout.above
        while above[node] >= 0 and self.has_no_write_due(node):
            if above[node] not in self.worked:
                if not is_side_by_side(self.layout.expressions[above[node]]):
                    self.go_on_above(node, above[node])
                return
            node = above[node]

    def has_no_write_due(self, node):
        """Tell whether no write in a node is due; if it is worked out, it is whole then."""
        for late in self.due:
            if self.layout.firsts[node] <= late <= node:
                return False
        return True

    def go_on_above(self, node, above):
        """Go on in the node above, which waited for a part to be whole."""
        expression = self.layout.expressions[above]
        parts = self.layout.parts[above]
        if expression[0] in CHOOSING:
            if node == parts[0]:
                self.begin_next(chosen_part(expression[0], self.worked[node], parts), above)
        elif expression[-1] == 1:
            behind = parts.index(node) + 1
            self.begin_next(parts[behind] if behind < len(parts) else None, above)
        elif all([part in self.worked for part in parts]) and self.has_no_write_due(above):
            self.admit(above, expression)

    def begin_next(self, part, above):
        """Begin a part of the node above, or admit this one if there is no part to begin."""
        expression = self.layout.expressions[above]
        if part is None:
            self.admit(above, expression)
            return
        self.begin(part)
        if part not in self.worked:
            return
        if expression[0] in CHOOSING:
            self.admit(above, expression)
        else:
            self.go_on_above(part, above)


def is_side_by_side(expression):
    """Tell whether a node that has parts begins them at once and waits only for their values."""
    return expression[0] not in WAITING and expression[-1] != 1
