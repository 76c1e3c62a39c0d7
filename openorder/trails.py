"""A run with all its turns: to which evaluation each belongs, and which access it makes."""

from openorder.layout import Layout
from openorder.machine import place_chosen
from openorder.orders import Orders
from openorder.running import Running
from openorder.steps import place_of


class Trail:
    """The turns of a run, in lists by their places, and its evaluations of full expressions.

    homes has the number of the evaluation of a turn, sights its access, a pair (PLACE, sort), or
    None. The evaluations that have turns are numbered as these begin: pieces has the places of
    their turns, uppers the place of the call in whose body they are, -1 in main's, ranks how many
    of this body came before.
    """

    def __init__(self, program, inputs, choices, most):
        self.layout = Layout(program)
        self.orders = Orders(self.layout)
        self.turns = []
        self.homes = []
        self.sights = []
        self.pieces = []
        self.uppers = []
        self.ranks = []
        self.numbers = {}
        self.callers = {0: -1}
        self.rounds = {}
        running = Running(self.layout)
        running.begin(inputs)
        while running.end is None and len(self.turns) < most:
            self.take(running, place_chosen(running, choices, len(self.turns)))
        self.is_cut = running.end is None

    def take(self, running, place):
        """Do the turn at this place among those that are possible, and keep it."""
        body = running.bodies[-1]
        turn = running.turn_at(place)
        home = self.home_of(body)
        self.pieces[home].append(len(self.turns))
        if turn[2] == "call":
            self.callers[running.body_many] = len(self.turns)
        self.turns.append(turn)
        self.homes.append(home)
        self.sights.append(access_of(running, body, turn))
        running.take(place)

    def home_of(self, body):
        """Return the number of the evaluation at which a body is."""
        key = (body.number, body.round)
        if key not in self.numbers:
            self.numbers[key] = len(self.pieces)
            self.pieces.append([])
            self.uppers.append(self.callers[body.number])
            self.ranks.append(self.rounds.get(body.number, 0))
            self.rounds[body.number] = self.ranks[-1] + 1
        return self.numbers[key]

    def item_of(self, at):
        """Return the ITEM that a turn is."""
        _, node, kind = self.turns[at]
        return (node, kind)

    def upper_of(self, at):
        """Return the place of the call in whose body a turn is, or -1."""
        return self.uppers[self.homes[at]]

    def way(self, at, home):
        """Return the nodes of the calls through which a turn comes from an evaluation, then its own."""
        nodes = [self.turns[at][1]]
        while self.homes[at] != home:
            at = self.upper_of(at)
            nodes.append(self.turns[at][1])
        return tuple(reversed(nodes))

    def piece_around(self, at, home):
        """Return the place of the turn of an evaluation in whose piece a turn is."""
        while self.homes[at] != home:
            at = self.upper_of(at)
        return at

    def piece_ends(self):
        """Return the list of the places behind the pieces of the turns."""
        ends = [at + 1 for at in range(len(self.turns))]
        for at in range(len(self.turns)):
            upper = self.upper_of(at)
            while upper >= 0:
                ends[upper] = at + 1
                upper = self.upper_of(upper)
        return ends


def access_of(running, body, turn):
    """Return the access that a possible turn makes, as a pair (PLACE, sort), or None."""
    _, node, kind = turn
    if kind == "write":
        return (body.due[node][0], "write")
    expression = body.layout.expressions[node]
    word = expression[0]
    if word == "print":
        return (("output",), "write")
    if word in ("add", "inc"):
        return (place_of(running, body, expression[1], body.layout.parts[node]), "read")
    if word in ("var", "item", "at"):
        return (place_of(running, body, expression, body.layout.parts[node]), "read")
    return None
