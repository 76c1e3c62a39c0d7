"""A run with all its turns: to which evaluation each belongs, and which access it makes."""

from openorder.layout import Layout
from openorder.machine import place_chosen
from openorder.orders import Orders
from openorder.running import Running
from openorder.steps import place_of

# The nodes whose own steps access a place.
ACCESSING = {"var": True, "item": True, "at": True, "add": True, "inc": True, "print": True}


class Trail:
    """The turns of a run, in lists by their places, and its evaluations of full expressions.

    numbers has the turns as twice their nodes, writes as one more; homes the numbers of the
    evaluations to which they belong, sights their accesses, pairs (PLACE, sort), or None. The
    evaluations that have turns are numbered as these begin: tops has their full expressions, owners
    the numbers of the bodies in which they are, uppers the places of the calls in whose bodies they
    are, -1 in main's. callers has the places of the calls by the numbers of their bodies, depths the
    depths of these. fixed has the accesses of the nodes that always access the same global.
    """

    def __init__(self, program, inputs, choices, most):
        self.layout = Layout(program)
        self.orders = Orders(self.layout)
        self.numbers = []
        self.homes = []
        self.sights = []
        self.tops = []
        self.owners = []
        self.fixed = {}
        self.callers = {0: -1}
        self.depths = {0: 0}
        running = Running(self.layout)
        running.begin(inputs)
        self.follow(running, choices, most)
        self.is_cut = running.end is None
        self.uppers = [self.callers[owner] for owner in self.owners]

    def follow(self, running, choices, most):
        """Do the turns of the run of these CHOICES, at most so many, and keep them."""
        expressions = self.layout.expressions
        numbers, homes, sights = self.numbers, self.homes, self.sights
        chosen_many = len(choices)
        for at in range(most):
            if running.end is not None:
                return
            body = running.bodies[-1]
            place = place_chosen(running, choices, at) if at < chosen_many else 0
            number = body.possible[place]
            if body.home < 0:
                body.home = len(self.owners)
                self.owners.append(body.number)
                self.tops.append(body.top)
            numbers.append(number)
            homes.append(body.home)
            node = number // 2
            if number > node + node:
                sights.append((body.due[node][0], "write"))
            elif node in self.fixed:
                sights.append(self.fixed[node])
            elif expressions[node][0] in ACCESSING:
                sights.append(self.access_of(running, body, node))
            else:
                sights.append(None)
                if expressions[node][0] == "call":
                    self.callers[running.body_many] = at
                    self.depths[running.body_many] = body.depth + 1
            running.take(place)

    def access_of(self, running, body, node):
        """Return the access that the own step of a node makes."""
        expression = self.layout.expressions[node]
        word = expression[0]
        if word == "print":
            return (("output",), "write")
        place = expression[1] if word in ("add", "inc") else expression
        sight = (place_of(running, body, place, self.layout.parts[node]), "read")
        if place[0] == "var" and sight[0][0] == "global":
            self.fixed[node] = sight
        return sight

    def turns(self):
        """Return the list of the TURNs."""
        found = []
        for at, home in enumerate(self.homes):
            node, kind = self.item_of(at)
            found.append((self.depths[self.owners[home]], node, kind))
        return found

    def pieces(self):
        """Return the list of the lists of the places of the turns of each evaluation."""
        found = [[] for _ in self.owners]
        for at, home in enumerate(self.homes):
            found[home].append(at)
        return found

    def ranks(self):
        """Return the list that tells, for each evaluation, how many of its body came before."""
        found = []
        many = {}
        for owner in self.owners:
            found.append(many.get(owner, 0))
            many[owner] = found[-1] + 1
        return found

    def node_of(self, at):
        """Return the node of a turn."""
        return self.numbers[at] // 2

    def item_of(self, at):
        """Return the ITEM that a turn is."""
        return self.orders.item_at(self.numbers[at])

    def upper_of(self, at):
        """Return the place of the call in whose body a turn is, or -1."""
        return self.uppers[self.homes[at]]

    def way(self, at, home):
        """Return the nodes of the calls through which a turn comes from an evaluation, then its own."""
        nodes = [self.node_of(at)]
        while self.homes[at] != home:
            at = self.upper_of(at)
            nodes.append(self.node_of(at))
        return tuple(reversed(nodes))

    def piece_around(self, at, home):
        """Return the place of the turn of an evaluation in whose piece a turn is."""
        while self.homes[at] != home:
            at = self.upper_of(at)
        return at

    def piece_ends(self):
        """Return the list of the places behind the pieces of the turns."""
        ends = [at + 1 for at in range(len(self.numbers))]
        for at in range(len(self.numbers)):
            upper = self.upper_of(at)
            while upper >= 0:
                ends[upper] = at + 1
                upper = self.upper_of(upper)
        return ends
