"""A run of a program at one moment."""

from openorder.bodies import Body
from openorder.cells import cells_at_first, values_told
from openorder.errors import OtherInputs
from openorder.steps import STEPS


class Running:
    """A run behind some of its turns: what stands in the places, what was printed, who is at work.

    end is None as long as a turn is possible; all possible ones are of the last body at work.
    """

    def __init__(self, layout):
        self.layout = layout
        self.cells = {}
        self.output = []
        self.bodies = []
        self.body_many = 0
        self.end = None

    def begin(self, inputs):
        """Begin the run with these inputs; raise OtherInputs(many) if main has other parameters."""
        if len(inputs) != len(self.layout.params["main"]):
            raise OtherInputs(len(self.layout.params["main"]))
        self.cells = cells_at_first(self.layout.entries)
        self.enter(Body(self.layout, "main"), inputs)
        self.settle()

    def twin(self):
        """Return a new run in the same state."""
        other = Running(self.layout)
        other.cells = {name: list(self.cells[name]) for name in self.cells}
        other.output = list(self.output)
        other.bodies = [body.twin() for body in self.bodies]
        other.body_many = self.body_many
        other.end = self.end
        return other

    def enter(self, body, given):
        """Let a body begin with these values of its parameters."""
        body.number = self.body_many
        body.depth = len(self.bodies)
        self.body_many += 1
        self.bodies.append(body)
        body.begin_with(given)

    def settle(self):
        """Do what needs no turn, until a turn is possible or the run is over."""
        body = self.bodies[-1]
        while len(body.possible) == 0:
            if body.returned is None and body.top in body.worked and len(body.due) == 0:
                body.go_on()
                continue
            if body.returned is not None:
                self.leave(body)
            else:
                self.give_up(body)
            if self.end is not None:
                return
            body = self.bodies[-1]

    def leave(self, body):
        """Leave a body that has returned: its call is worked out, or the run is over."""
        self.bodies.pop()
        if len(self.bodies) == 0:
            self.end = ("ended", body.returned)
        else:
            self.bodies[-1].finish(body.call, body.returned)

    def give_up(self, body):
        """Give up a body in which nothing is possible: its call is blocked, or the run is over."""
        blocked = sorted(body.blocked)
        if len(self.bodies) == 1:
            self.end = ("stuck", tuple(blocked))
            return
        self.bodies.pop()
        above = self.bodies[-1]
        above.failed[body.call] = tuple(blocked)
        above.blocked.extend(blocked)

    def many_possible(self):
        """Return how many turns are possible."""
        return len(self.bodies[-1].possible) if self.end is None else 0

    def turn_at(self, place):
        """Return the TURN at this place among those that are possible."""
        body = self.bodies[-1]
        turn = body.possible[place]
        node = turn // 2
        if turn > node + node:
            return (body.depth, node, "write")
        is_call = self.layout.expressions[node][0] == "call"
        return (body.depth, node, "call" if is_call else "step")

    def offers(self):
        """Return the list of the TURNs that are possible."""
        return [self.turn_at(place) for place in range(self.many_possible())]

    def place_of(self, turn):
        """Return the place of a TURN among those that are possible, or -1 if it is not."""
        if self.end is not None:
            return -1
        body = self.bodies[-1]
        _, node, kind = turn
        number = node + node + 1 if kind == "write" else node + node
        if number not in body.possible:
            return -1
        place = body.possible.index(number)
        return place if self.turn_at(place) == tuple(turn) else -1

    def take(self, place):
        """Do the turn at this place among those that are possible."""
        body = self.bodies[-1]
        turn = body.possible.pop(place)
        node = turn // 2
        if turn > node + node:
            target, value = body.due.pop(node)
            if target[0] == "global":
                self.cells[target[1]][target[2]] = value
            else:
                body.variables[target[2]] = value
            body.written(node)
        else:
            expression = self.layout.expressions[node]
            word = expression[0]
            if word == "call":
                body = self.begin_call(body, node)
            else:
                step = STEPS[word]
                body.finish(node, step(self, body, node, expression))
        if len(body.possible) == 0:
            self.settle()

    def begin_call(self, body, node):
        """Begin the body of a call; return it."""
        given = [body.worked[part] for part in self.layout.parts[node]]
        inner = Body(self.layout, self.layout.expressions[node][1])
        inner.call = node
        self.enter(inner, given)
        return inner

    def outcome(self):
        """Return the RESULT, of a run that is cut here if it is not over."""
        end = ("going",) if self.end is None else self.end
        return (end, tuple(self.output), self.values_of_globals())

    def values_of_globals(self):
        """Return the tuple of the values of the globals, of an array the tuple of its cells."""
        return values_told(self.layout.entries, self.cells)
