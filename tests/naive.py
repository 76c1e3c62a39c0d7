"""What [14] and [15] say, taken literally: the statements are gone through until nothing is new."""

from openorder.nodes import node_at, node_many, parts_at, top_at
from openorder.sequence import items, unsequenced
from tests.runs import first_node


def parts(e):
    """Return the expressions in an expression, and itself."""
    found = [e]
    for part in e[1:]:
        if isinstance(part, tuple) and part and isinstance(part[0], str):
            found += parts(part)
        elif isinstance(part, tuple):
            for one in part:
                found += parts(one)
    return found


def expressions(body):
    """Return all expressions in a body, of a declaration a set; lvs are told as the nodes they resemble."""
    found = []
    for statement in body:
        if statement[0] == "let":
            found += parts(("set", ("var", statement[2]), statement[3], 0))
        else:
            found += parts(statement[1])
        for inner in statement[2:] if statement[0] in ("if", "while") else ():
            found += expressions(inner)
    return found


def locals_of(body):
    """Return the pairs (kind, name) of the locals that are declared in a body."""
    found = []
    for statement in body:
        if statement[0] == "let":
            found.append(statement[1:3])
        for inner in statement[2:] if statement[0] in ("if", "while") else ():
            found += locals_of(inner)
    return found


class Naive:
    """The targets and footprints of a program."""

    def __init__(self, program):
        self.globals = {entry[1]: entry for entry in program[0]}
        self.functions = {function[0]: function for function in program[1]}
        self.targets = {("", name): {entry[2]} for name, entry in self.globals.items() if entry[0] == "ref"}
        for name, params, body in program[1]:
            for kind, variable in tuple(params) + tuple(locals_of(body)):
                if kind == "ref":
                    self.targets[(name, variable)] = set()
        told = [(function[0], e) for function in program[1] for e in expressions(function[2])]
        before = None
        while before != self.targets:
            before = {variable: set(names) for variable, names in self.targets.items()}
            for function, e in told:
                self.learn(function, e)

    def variable(self, function, name):
        return ("", name) if name in self.globals else (function, name)

    def learn(self, function, e):
        if e[0] == "set" and e[1][0] == "var" and self.variable(function, e[1][1]) in self.targets:
            self.targets[self.variable(function, e[1][1])] |= self.aims(function, e[2])
        if e[0] == "call":
            for (kind, name), part in zip(self.functions[e[1]][1], e[2]):
                if kind == "ref":
                    self.targets[(e[1], name)] |= self.aims(function, part)

    def aims(self, function, e):
        if e[0] in ("ref", "refitem"):
            return {e[1]}
        if e[0] == "var":
            return set(self.targets[self.variable(function, e[1])])
        if e[0] == "cond":
            return self.aims(function, e[2]) | self.aims(function, e[3])
        return self.aims(function, e[2])

    def places(self, function, place):
        return self.aims(function, place[1]) if place[0] == "at" else {place[1]}

    def accesses(self, function, e, kind):
        """Return the set of what a step or a write may access."""
        if e[0] == "print":
            return {("", "write")}
        if e[0] in ("set", "add", "inc"):
            if kind == "step" and e[0] == "set":
                return set()
            return {(name, "read" if kind == "step" else "write") for name in self.places(function, e[1])}
        if e[0] in ("var", "item", "at"):
            return {(name, "read") for name in self.places(function, e)}
        return set()

    def footprint(self, function):
        """Return the set of what a call of a function may access."""
        found, met, left = set(), set(), [function]
        while left:
            name = left.pop()
            if name in met:
                continue
            met.add(name)
            for e in nodes_of(self.functions[name][2]):
                if e[0] == "call":
                    left.append(e[1])
                else:
                    found |= self.accesses(name, e, "step")
                    if e[0] in ("set", "add", "inc"):
                        found |= self.accesses(name, e, "write")
        return {access for access in found if access[0] == "" or access[0] in self.globals}


def nodes_of(body):
    """Return the expressions in a body without its lvs."""
    lvs = []
    for e in expressions(body):
        if e[0] in ("set", "add", "inc"):
            lvs.append(id(e[1]))
    return [e for e in expressions(body) if id(e) not in lvs]


def function_at(program, node):
    """Return the name of the function in which a node is, counting the nodes of the functions."""
    many = 0
    for function in program[1]:
        many += node_many(((), (function,)))
        if node < many:
            return function[0]
    return None


def naive_access(program, naive, item):
    """Return the set of what an item may access."""
    e = node_at(program, item[0])
    if item[1] == "call":
        return naive.footprint(e[1])
    return naive.accesses(function_at(program, item[0]), e, item[1])


def written_cell(program, node):
    """Return (array, number) of a node with a number as its index, or None."""
    e = node_at(program, node)
    place = e[1] if e[0] in ("set", "add", "inc") else e
    return (place[1], place[2][1]) if place[0] == "item" and place[2][0] == "num" else None


def naive_refused(program):
    """Return the ascending list of the refused pairs."""
    naive = Naive(program)
    found = []
    for top in sorted({top_at(program, node) for node in range(node_many(program))}):
        first = first_node(program, top)
        expression = node_at(program, top)
        may = {item: naive_access(program, naive, (item[0] + first, item[1])) for item in items(expression)}
        for one, other in unsequenced(expression):
            names = {name for name, sort in may[one] for again, other_sort in may[other]
                     if name == again and "write" in (sort, other_sort)}
            cells = [written_cell(program, item[0] + first) for item in (one, other)]
            if None not in cells and cells[0][0] == cells[1][0] and cells[0][1] != cells[1][1]:
                names.discard(cells[0][0])
            if names:
                found.append(((one[0] + first, one[1]), (other[0] + first, other[1]), min(names)))
    return sorted(found)


def part_numbers(program):
    """Return, for each node, how many parts it has."""
    return [len(parts_at(program, node)) for node in range(node_many(program))]
