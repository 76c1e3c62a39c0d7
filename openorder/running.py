"""A run of a program at one moment."""

from openorder.bodies import Body
from openorder.cells import cells_at_first, values_told
from openorder.errors import OtherInputs
from openorder.steps import STEPS


class Running:
    """A run behind some of its turns: what stands in the places, what was printed, who is at work.

    end is None as long as a turn is possible; all possible ones are of the last body at work.
    """

    def __init__(self, layout):
        self.layout = layout
        self.cells = {}
        self.output = []
        self.bodies = []
        self.body_many = 0
        self.end = None

    def begin(self, inputs):
        """Begin the run with these inputs; raise OtherInputs(many) if main has other parameters."""
        if len(inputs) != len(self.layout.params["main"]):
            raise OtherInputs(len(self.layout.params["main"]))
        self.cells = cells_at_first(self.layout.entries)
        self.enter(Body(self.layout, "main"), inputs)
        self.settle()

    def twin(self):
        """Return a new run in the same state."""
        other = Running(self.layout)
        other.cells = {name: list(self.cells[name]) for name in self.cells}
        other.output = list(self.output)
        other.bodies = [body.twin() for body in self.bodies]
        other.body_many = self.body_many
        other.end = self.end
        return other

    def enter(self, body, given):
        """Let a body begin with these values of its parameters."""
        body.number = self.body_many
        body.depth = len(self.bodies)
        self.body_many += 1
        self.bodies.append(body)
        body.begin_with(given)

    def settle(self):
        """Do what needs no turn, until a turn is possible or the run is over."""
        while self.end is None:
            body = self.bodies[-1]
            if body.returned is not None:
                self.leave(body)
            elif len(body.possible) > 0:
                return
            elif body.is_whole():
                body.go_on()
            else:
                self.give_up(body)

    def leave(self, body):
        """Leave a body that has returned: its call is worked out, or the run is over."""
        self.bodies.pop()
        if len(self.bodies) == 0:
            self.end = ("ended", body.returned)
        else:
            self.bodies[-1].finish(body.call, body.returned)

    def give_up(self, body):
        """Give up a body in which nothing is possible: its call is blocked, or the run is over."""
        blocked = sorted(body.blocked)
        if len(self.bodies) == 1:
            self.end = ("stuck", tuple(blocked))
            return
        self.bodies.pop()
        above = self.bodies[-1]
        above.failed[body.call] = tuple(blocked)
        above.blocked.extend(blocked)

    def many_possible(self):
        """Return how many turns are possible."""
        return len(self.bodies[-1].possible) if self.end is None else 0

    def turn_at(self, place):
        """Return the TURN at this place among those that are possible."""
        body = self.bodies[-1]
        turn = body.possible[place]
        node = turn // 2
        if turn > node + node:
            return (body.depth, node, "write")
        is_call = self.layout.expressions[node][0] == "call"
        return (body.depth, node, "call" if is_call else "step")

    def offers(self):
        """Return the list of the TURNs that are possible."""
        return [self.turn_at(place) for place in range(self.many_possible())]

    def place_of(self, turn):
        """Return the place of a TURN among those that are possible, or -1 if it is not."""
        if self.end is not None:
            return -1
        body = self.bodies[-1]
        _, node, kind = turn
        number = node + node + 1 if kind == "write" else node + node
        if number not in body.possible:
            return -1
        place = body.possible.index(number)
        return place if self.turn_at(place) == tuple(turn) else -1

    def take(self, place):
        """Do the turn at this place among those that are possible."""
        body = self.bodies[-1]
        turn = body.possible.pop(place)
        node = turn // 2
        expression = self.layout.expressions[node]
        if turn > node + node:
            target, value = body.due[node]
            self.write(body, target, value)
            body.written(node)
        elif expression[0] == "call":
            self.begin_call(body, node)
        else:
            step = STEPS[expression[0]]
            body.finish(node, step(self, body, node, expression))
        if len(self.bodies[-1].possible) == 0:
            self.settle()

    def begin_call(self, body, node):
        """Begin the body of a call."""
        given = [body.worked[part] for part in self.layout.parts[node]]
        inner = Body(self.layout, self.layout.expressions[node][1])
        inner.call = node
        self.enter(inner, given)

    def read(self, body, name):
        """Return the value of a variable in a body."""
        return body.variables[name] if name in body.variables else self.cells[name][0]

    def write(self, body, place, value):
        """Store a value in a PLACE; the only locals that are written are those of the body."""
        if place[0] == "global":
            self.cells[place[1]][place[2]] = value
        else:
            body.variables[place[2]] = value

    def place_named(self, body, name):
        """Return the PLACE of a variable in a body."""
        if name in self.cells:
            return ("global", name, 0)
        return ("local", body.number, name)

    def outcome(self):
        """Return the RESULT, of a run that is cut here if it is not over."""
        end = ("going",) if self.end is None else self.end
        return (end, tuple(self.output), self.values_of_globals())

    def values_of_globals(self):
        """Return the tuple of the values of the globals, of an array the tuple of its cells."""
        return values_told(self.layout.entries, self.cells)
