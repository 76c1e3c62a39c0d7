"""A body at work: the statement that is reached and its full expression so far."""


class Body:
    """One running body of a function.

    worked has the values worked out in the full expression, by nodes; due the writes still due, as
    pairs (PLACE, value); failed the blocked steps of calls whose bodies are blocked for good.
    """

    def __init__(self, layout, function, given):
        self.layout = layout
        self.rows = layout.rows[function]
        self.number = 0
        self.depth = 0
        self.call = None
        self.variables = dict(zip(layout.params[function], given))
        self.returned = None
        self.row = 0
        self.top = None
        self.worked = {}
        self.due = {}
        self.failed = {}
        self.reach(0)

    def reach(self, row):
        """Go on at a row: begin its full expression, or return 0 behind the last row."""
        while row < len(self.rows) and self.rows[row][0] == "jump":
            row = self.rows[row][1]
        self.row = row
        self.due = {}
        self.failed = {}
        if row == len(self.rows):
            self.give_back(0)
            return
        self.top = self.rows[row][1]
        self.worked = self.layout.constants(self.top)

    def give_back(self, value):
        """Return a value; nothing is done behind it."""
        self.returned = value
        self.top = None
        self.worked = {}

    def go_on(self):
        """Go on behind a full expression that is whole."""
        row = self.rows[self.row]
        value = self.worked[self.top]
        if row[0] == "return":
            self.give_back(value)
        elif row[0] == "unless" and value == 0:
            self.reach(row[2])
        else:
            self.reach(self.row + 1)
