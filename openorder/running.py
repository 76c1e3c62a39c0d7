"""A run of a program at one moment."""

from openorder.bodies import Body
from openorder.errors import OtherInputs
from openorder.steps import stepped
from openorder.survey import Survey


class Running:
    """A run behind some of its turns: what stands in the places, what was printed, who is at work.

    possible has the turns that are possible now, as pairs (node, kind), all of the last body at
    work; end is None as long as there is one.
    """

    def __init__(self, layout, inputs):
        self.layout = layout
        self.cells = cells_at_first(layout.entries)
        self.output = []
        self.bodies = []
        self.body_many = 0
        self.possible = []
        self.end = None
        if len(inputs) != len(layout.params["main"]):
            raise OtherInputs(len(layout.params["main"]))
        self.enter(Body(layout, "main", inputs))
        self.settle()

    def enter(self, body):
        """Let a body begin."""
        body.number = self.body_many
        body.depth = len(self.bodies)
        self.body_many += 1
        self.bodies.append(body)

    def settle(self):
        """Do what needs no turn, until a turn is possible or the run is over."""
        while self.end is None and len(self.possible) == 0:
            self.settle_body(self.bodies[-1])

    def settle_body(self, body):
        """Let the last body return, go on to another statement, offer its turns, or give it up."""
        if body.returned is not None:
            self.leave(body)
            return
        survey = Survey(self.layout, body)
        if survey.is_whole:
            body.go_on()
        elif len(survey.possible) > 0:
            self.possible = survey.possible
        else:
            self.give_up(body, survey.blocked)

    def leave(self, body):
        """Leave a body that has returned: its call is worked out, or the run is over."""
        self.bodies.pop()
        if len(self.bodies) == 0:
            self.end = ("ended", body.returned)
        else:
            self.bodies[-1].worked[body.call] = body.returned

    def give_up(self, body, blocked):
        """Give up a body in which nothing is possible: its call is blocked, or the run is over."""
        if len(self.bodies) == 1:
            self.end = ("stuck", tuple(sorted(blocked)))
            return
        self.bodies.pop()
        self.bodies[-1].failed[body.call] = blocked

    def offers(self):
        """Return the list of the TURNs that are possible."""
        depth = len(self.bodies) - 1
        return [(depth, node, kind) for node, kind in self.possible]

    def take(self, place):
        """Do the turn at this place among those that are possible."""
        node, kind = self.possible[place]
        body = self.bodies[-1]
        self.possible = []
        if kind == "call":
            self.begin_call(body, node)
        elif kind == "write":
            target, value = body.due.pop(node)
            self.write(target, value)
        else:
            body.worked[node] = stepped(self, body, node)
        self.settle()

    def begin_call(self, body, node):
        """Begin the body of a call."""
        function = self.layout.expressions[node][1]
        given = [body.worked[part] for part in self.layout.parts[node]]
        inner = Body(self.layout, function, given)
        inner.call = node
        self.enter(inner)

    def place_named(self, name):
        """Return the PLACE of a variable in the last body."""
        if name in self.cells:
            return ("global", name, 0)
        return ("local", self.bodies[-1].number, name)

    def read(self, place):
        """Return the value of a PLACE; only locals of the last body are read."""
        if place[0] == "global":
            return self.cells[place[1]][place[2]]
        return self.bodies[-1].variables[place[2]]

    def write(self, place, value):
        """Store a value in a PLACE; only locals of the last body are written."""
        if place[0] == "global":
            self.cells[place[1]][place[2]] = value
        else:
            self.bodies[-1].variables[place[2]] = value

    def say(self, value):
        """Put a value behind the output."""
        self.output.append(value)

    def outcome(self):
        """Return the RESULT, of a run that is cut here if it is not over."""
        end = ("going",) if self.end is None else self.end
        told = []
        for entry in self.layout.entries:
            cells = self.cells[entry[1]]
            told.append(tuple(cells) if entry[0] == "array" else cells[0])
        return (end, tuple(self.output), tuple(told))


def cells_at_first(entries):
    """Return a dict of the lists of the cells of the globals at the beginning."""
    cells = {}
    for entry in entries:
        if entry[0] == "array":
            cells[entry[1]] = [0] * entry[2]
        elif entry[0] == "int":
            cells[entry[1]] = [entry[2]]
        else:
            cells[entry[1]] = [(entry[2], entry[3])]
    return cells
