"""Where the references of a program may point, found without running it."""

from openorder.layout import Layout
from openorder.shapes import declared_in


class Pointers:
    """The targets of the reference variables of a program.

    A variable is a pair (function, name), function "" for globals. flows has the triples (variable,
    function, expression): in this function the variable is set to this expression.
    """

    def __init__(self, program):
        entries, functions = program
        self.layout = Layout(program)
        self.entries = entries
        self.functions = functions
        self.kinds = {}
        self.params = {}
        self.targets = {}
        self.flows = []
        for entry in entries:
            self.kinds[("", entry[1])] = entry[0]
        for function in functions:
            self.declare(function)
        for variable in self.kinds:
            if self.kinds[variable] == "ref":
                self.targets[variable] = {}
        for entry in entries:
            if entry[0] == "ref":
                self.targets[("", entry[1])][entry[2]] = True
        for node, expression in enumerate(self.layout.expressions):
            self.add_flows(self.function_of(node), expression)
        self.follow_flows()

    def declare(self, function):
        """Keep the kinds of the parameters and locals of a function."""
        name, params, body = function
        self.params[name] = params
        for kind, variable in list(params) + declared_in(body):
            self.kinds[(name, variable)] = kind

    def function_of(self, node):
        """Return the name of the function in which a node is."""
        for name in self.layout.ends:
            if node < self.layout.ends[name]:
                return name
        return ""

    def variable_of(self, function, name):
        """Return the variable that a name means in a function."""
        return ("", name) if ("", name) in self.kinds else (function, name)

    def add_flows(self, function, expression):
        """Keep which variables a node, apart from its parts, sets to references."""
        if expression[0] == "set" and expression[1][0] == "var":
            variable = self.variable_of(function, expression[1][1])
            if variable in self.targets:
                self.flows.append((variable, function, expression[2]))
        elif expression[0] == "call":
            called = expression[1]
            for (kind, param), part in zip(self.params[called], expression[2]):
                if kind == "ref":
                    self.flows.append(((called, param), function, part))

    def follow_flows(self):
        """Hand targets on until every variable has all of its own."""
        is_changed = True
        while is_changed:
            is_changed = False
            for variable, function, expression in self.flows:
                for name in self.targets_of(function, expression):
                    if name not in self.targets[variable]:
                        self.targets[variable][name] = True
                        is_changed = True

    def targets_of(self, function, expression):
        """Return the list of the targets of an expression of kind ref in a function."""
        word = expression[0]
        if word in ("ref", "refitem"):
            return [expression[1]]
        if word == "var":
            return list(self.targets[self.variable_of(function, expression[1])])
        if word == "cond":
            return self.targets_of(function, expression[2]) + self.targets_of(function, expression[3])
        return self.targets_of(function, expression[2])

    def names_at(self, function, place):
        """Return the list of the names to whose places an lv, or a node that only reads, may lead."""
        if place[0] == "at":
            return self.targets_of(function, place[1])
        return [place[1]]
