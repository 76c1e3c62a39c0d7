"""A body at work: the statement that is reached and its full expression so far."""

from openorder.shapes import CHOOSING, WRITING, array_in, chosen_part

DEEPEST = 11
HINDERED = ("op", "call", "item", "refitem", "set", "add", "inc")
WAITING = ("call", "and", "or", "cond", "comma")


class Body:
    """One running body of a function.

    worked has the values worked out in the full expression, by nodes; due the writes still due, as
    pairs (PLACE, value); blocked the pairs (node, word) of the blocked steps; failed, by nodes,
    those of the calls whose bodies are blocked for good. possible has the turns that are possible,
    ascending: a turn is kept as twice its node, a write as one more, so they ascend as TURNs do.
    """

    def __init__(self, layout, function):
        self.layout = layout
        self.function = function
        self.number = 0
        self.depth = 0
        self.call = -1
        self.variables = {}
        self.returned = None
        self.row = 0
        self.round = 0
        self.top = -1
        self.worked = {}
        self.due = {}
        self.possible = []
        self.blocked = []
        self.failed = {}

    def twin(self):
        """Return a new body in the same state."""
        other = Body(self.layout, self.function)
        other.number = self.number
        other.depth = self.depth
        other.call = self.call
        other.variables = dict(self.variables)
        other.returned = self.returned
        other.row = self.row
        other.round = self.round
        other.top = self.top
        other.worked = dict(self.worked)
        other.due = dict(self.due)
        other.possible = list(self.possible)
        other.blocked = list(self.blocked)
        other.failed = dict(self.failed)
        return other

    def begin_with(self, given):
        """Begin the body with these values of its parameters."""
        self.variables = dict(zip(self.layout.params[self.function], given))
        self.reach(0)

    def reach(self, row):
        """Go on at a row: begin its full expression, or return 0 behind the last row."""
        rows = self.layout.rows[self.function]
        while row < len(rows) and rows[row][0] == "jump":
            row = rows[row][2]
        if row == len(rows):
            self.returned = 0
            return
        self.row = row
        self.round += 1
        self.top = rows[row][1]
        self.worked = dict(self.layout.constants_in(self.top))
        self.begin(self.top)

    def go_on(self):
        """Go on behind a full expression that is whole."""
        row = self.layout.rows[self.function][self.row]
        value = self.worked[self.top]
        if row[0] == "return":
            self.returned = value
        elif row[0] == "unless" and value == 0:
            self.reach(row[2])
        else:
            self.reach(self.row + 1)

    def is_whole(self):
        """Tell whether the full expression is whole."""
        return self.top in self.worked and len(self.due) == 0

    def begin(self, node):
        """Begin a node: those in it that wait for nothing are admitted."""
        for opened in self.layout.opened_by(node):
            self.admit(opened)

    def admit(self, node):
        """Take up an own step that waits for nothing: it is possible, or it is blocked."""
        expression = self.layout.expressions[node]
        if expression[0] in HINDERED:
            word = self.hindrance(node, expression)
            if word != "":
                self.blocked.append((node, word))
                return
        self.offer(node + node)

    def offer(self, turn):
        """Add a turn to the possible ones."""
        self.possible.append(turn)
        if len(self.possible) > 1 and self.possible[-2] > turn:
            self.possible = sorted(self.possible)

    def hindrance(self, node, expression):
        """Return the word that tells why an own step blocks, or "" if it can be done."""
        word = expression[0]
        if word == "op":
            if expression[1] in ("/", "~") and self.worked[self.layout.parts[node][1]] == 0:
                return "nought"
            return ""
        if word == "call":
            return "deep" if self.depth >= DEEPEST else ""
        array = array_in(expression)
        if array == "":
            return ""
        index = self.worked[self.layout.parts[node][0]]
        return "" if 0 <= index < self.layout.sizes[array] else "index"

    def finish(self, node, value):
        """Keep the value that an own step gives, and admit what waited only for it."""
        self.worked[node] = value
        layout = self.layout
        if layout.expressions[node][0] in WRITING:
            self.offer(node + node + 1)
        above = layout.above[node]
        if above < 0:
            return
        if is_side_by_side(layout.expressions[above]):
            for part in layout.parts[above]:
                if part not in self.worked:
                    return
            self.admit(above)
        elif layout.expressions[above][0] in CHOOSING and node != layout.parts[above][0]:
            self.admit(above)
        elif self.has_no_write_due(node):
            self.go_on_above(node, above)

    def written(self, node):
        """Take a write off those that are due, and admit what waited only for it."""
        self.due.pop(node)
        above = self.layout.above
        while self.has_no_write_due(node) and above[node] >= 0:
            if above[node] not in self.worked:
                if not is_side_by_side(self.layout.expressions[above[node]]):
                    self.go_on_above(node, above[node])
                return
            node = above[node]

    def has_no_write_due(self, node):
        """Tell whether no write in a node is due; if it is worked out, it is whole then."""
        for late in self.due:
            if self.layout.firsts[node] <= late <= node:
                return False
        return True

    def go_on_above(self, node, above):
        """Go on in the node above, which waited for a part to be whole."""
        expression = self.layout.expressions[above]
        parts = self.layout.parts[above]
        if expression[0] in CHOOSING:
            if node == parts[0]:
                self.begin_next(chosen_part(expression[0], self.worked[node], parts), above)
        elif expression[-1] == 1:
            behind = parts.index(node) + 1
            self.begin_next(parts[behind] if behind < len(parts) else None, above)
        elif all([part in self.worked for part in parts]) and self.has_no_write_due(above):
            self.admit(above)

    def begin_next(self, part, above):
        """Begin a part of the node above, or admit this one if there is no part to begin."""
        if part is None:
            self.admit(above)
            return
        self.begin(part)
        if part not in self.worked:
            return
        if self.layout.expressions[above][0] in CHOOSING:
            self.admit(above)
        else:
            self.go_on_above(part, above)


def is_side_by_side(expression):
    """Tell whether a node that has parts begins them at once and waits only for their values."""
    return expression[0] not in WAITING and expression[-1] != 1
