"""All STATEs of programs of main alone, without branches, taken literally from the document."""

from openorder.nodes import node_at, node_many, parts_at, top_at
from openorder.sequence import ready
from tests.plain import wrap
from tests.runs import first_node


def changed(table, key, value):
    """Return a tuple of pairs in which a key has this value."""
    return tuple(sorted({**dict(table), key: value}.items()))


class Straight:
    """The STATEs of a program whose statements are evaluated one behind the other.

    layers has, for each number of turns, a dict of the STATEs behind so many, as tuples (statement,
    cells and locals, output, ITEMs done, worked, due) to the least choices that lead there.
    """

    def __init__(self, program, inputs):
        self.program = program
        self.tops = sorted({top_at(program, node) for node in range(node_many(program))})
        cells = {}
        for entry in program[0]:
            for index in range(entry[2] if entry[0] == "array" else 1):
                value = entry[2] if entry[0] == "int" else 0 if entry[0] == "array" else entry[2:]
                cells[(entry[1], index)] = value
        for (_, name), value in zip(program[1][0][1], inputs):
            cells[(name, 0)] = value
        first = self.settled((0, tuple(sorted(cells.items())), (), (), (), ()))
        self.layers = [{first: []}]
        while True:
            layer = {}
            for state, choices in self.layers[-1].items():
                for place, item in enumerate(self.possible(state)):
                    behind = self.settled(self.behind(state, item))
                    layer[behind] = min(layer.get(behind, choices + [place]), choices + [place])
            if not layer:
                return
            self.layers.append(layer)

    def ends(self):
        """Return the number of the STATEs in which the last statement is done."""
        return len(self.layers[-1])

    def items_of(self, state):
        """Return the ITEMs that are possible by their order, their nodes counted in the program."""
        top = self.tops[state[0]]
        first = first_node(self.program, top)
        done = [(node - first, kind) for node, kind in state[3]]
        return [(node + first, kind) for node, kind in ready(node_at(self.program, top), done)]

    def possible(self, state):
        return [] if state[0] == len(self.tops) else self.items_of(state)

    def settled(self, state):
        """Go on to the next statement when all of this one is done."""
        while state[0] < len(self.tops) and not self.items_of(state):
            state = (state[0] + 1, state[1], state[2], (), (), ())
        return state

    def value_of(self, worked, node):
        expression = node_at(self.program, node)
        if expression[0] == "num":
            return expression[1]
        return (expression[1], 0) if expression[0] == "ref" else dict(worked)[node]

    def place_of(self, place, given):
        if place[0] == "var":
            return (place[1], 0)
        return (place[1], given[0]) if place[0] == "item" else given[0]

    def behind(self, state, item):
        statement, cells, output, done, worked, due = state
        node, kind = item
        done = tuple(sorted(done + (item,)))
        if kind == "write":
            table = dict(due)
            place, value = table.pop(node)
            return (statement, changed(cells, place, value), output, done, worked, tuple(sorted(table.items())))
        e = node_at(self.program, node)
        given = [self.value_of(worked, part) for part in parts_at(self.program, node)]
        word = e[0]
        if word in ("set", "add", "inc"):
            place = self.place_of(e[1], given)
            old = dict(cells).get(place)
            value = given[-1] if word == "set" else old if word == "inc" else wrap(old + given[-1])
            due = changed(due, node, (place, wrap(value + 1) if word == "inc" else value))
        elif word == "print":
            value = given[0]
            output += (value,)
        elif word == "op":
            left, right = given
            value = {"+": left + right if e[1] == "+" else 0, "-": left - right if e[1] == "-" else 0,
                     "*": left * right if e[1] == "*" else 0, "<": int(left < right) if e[1] == "<" else 0,
                     "==": int(left == right)}[e[1]]
            value = wrap(value)
        elif word in ("neg", "not"):
            value = wrap(-given[0]) if word == "neg" else int(not given[0])
        elif word == "comma":
            value = given[1]
        elif word == "refitem":
            value = (e[1], given[0])
        else:
            value = dict(cells)[self.place_of(e, given)]
        return (statement, cells, output, done, changed(worked, node, value), due)
