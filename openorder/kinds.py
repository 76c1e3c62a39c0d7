"""The first fault of a program: its names, its kinds, its sizes."""

from openorder.errors import Unsound
from openorder.shapes import parts_of
from openorder.tuples import tuples_of

GREATEST_SIZE = 20


def fault_of(program):
    """Return the first fault of any PROGRAM as a pair, or None if it is sound."""
    entries, functions = tuples_of(program)
    try:
        check_program(entries, functions)
    except Unsound as found:
        return found.fault
    return None


def check_program(entries, functions):
    """Raise Unsound with the first fault."""
    names = check_globals(entries)
    checker = Checker(names, functions)
    told = [entry[1] for entry in entries]
    for place, function in enumerate(functions):
        if function[0] in told:
            raise Unsound(("twice", function[0]))
        told.append(function[0])
        checker.check_params(function)
        if place == len(functions) - 1:
            check_main(function)
        checker.check_body(function[2])


def check_globals(entries):
    """Check the globals; return a dict of the kinds of their names."""
    names = {}
    sizes = {}
    for entry in entries:
        kind, name = entry[0], entry[1]
        if name in names:
            raise Unsound(("twice", name))
        if kind == "array":
            if not 1 <= entry[2] <= GREATEST_SIZE:
                raise Unsound(("size", name))
            sizes[name] = entry[2]
        elif kind == "int":
            sizes[name] = 1
        elif not 0 <= entry[3] < sizes.get(entry[2], 0):
            raise Unsound(("target", name))
        names[name] = kind
    return names


def check_main(function):
    """Check that the last function is a main."""
    refs = [name for kind, name in function[1] if kind == "ref"]
    if function[0] != "main" or len(refs) > 0:
        raise Unsound(("main", function[0]))


class Checker:
    """Goes over the functions in their order and counts their nodes."""

    def __init__(self, names, functions):
        self.names = names
        self.called = {}
        for function in functions:
            if function[0] != "main" and function[0] not in self.called:
                self.called[function[0]] = function[1]
        self.functions = [function[0] for function in functions]
        self.many = 0
        self.known = {}
        self.taken = []

    def check_params(self, function):
        """Begin a function: check its parameters, which are known in its body."""
        self.known = {}
        self.taken = []
        for kind, name in function[1]:
            self.declare(kind, name)

    def declare(self, kind, name):
        """Check the name of a parameter or local; it is known from here on."""
        if name == "main" or name in self.names or name in self.functions or name in self.taken:
            raise Unsound(("twice", name))
        self.taken.append(name)
        self.known[name] = kind

    def check_body(self, body):
        """Check the statements of a body; what it declares is forgotten behind it."""
        outside = dict(self.known)
        for statement in body:
            self.check_statement(statement)
        self.known = outside

    def check_statement(self, statement):
        """Check one statement with the bodies in it."""
        word = statement[0]
        if word == "let":
            self.check_declaration(statement)
            return
        kind = self.kind_of(statement[1])
        if word != "do" and kind != "int":
            self.refuse("kind", self.many - 1)
        if word == "while" and statement[1][0] == "num":
            self.refuse("kind", self.many - 1)
        if word in ("if", "while"):
            for body in statement[2:]:
                self.check_body(body)

    def check_declaration(self, statement):
        """Check a declaration; its name is known only behind it."""
        _, kind, name, value = statement
        found = self.kind_of(value)
        node = self.many
        self.many += 1
        self.declare(kind, name)
        self.expect(kind, found, node)

    def kind_of(self, expression):
        """Count the nodes of an expression, check each of them, and return the kind of the last."""
        kinds = [self.kind_of(part) for part in parts_of(expression)]
        node = self.many
        self.many += 1
        rule = RULES[expression[0]]
        return rule(self, expression, kinds, node)

    def refuse(self, word, node):
        """Raise Unsound with a fault of a node."""
        raise Unsound((word, node))

    def expect(self, kind, found, node):
        """Check that what was found is of this kind."""
        if found != kind:
            self.refuse("kind", node)

    def kind_of_name(self, name, node):
        """Return the kind of a known name: int, ref, array or function."""
        if name in self.known:
            return self.known[name]
        if name in self.names:
            return self.names[name]
        if name not in self.called:
            self.refuse("unknown", node)
        return "function"

    def expect_global(self, kind, name, node):
        """Check that a name is that of a global of this kind."""
        found = self.kind_of_name(name, node)
        self.expect(kind, "local" if name in self.known else found, node)

    def kind_of_place(self, place, kinds, node):
        """Check the place of a set, add or inc and return its kind."""
        if place[0] == "var":
            return variable_rule(self, place, kinds, node)
        if place[0] == "item":
            return item_rule(self, place, kinds[:1], node)
        return at_rule(self, place, kinds[:1], node)


def number_rule(checker, expression, kinds, node):
    """A number is an int."""
    return "int"


def variable_rule(checker, expression, kinds, node):
    """A variable has its own kind; an array needs an index, a function brackets."""
    kind = checker.kind_of_name(expression[1], node)
    if kind not in ("int", "ref"):
        checker.refuse("kind", node)
    return kind


def reference_rule(checker, expression, kinds, node):
    """&x is for a global int."""
    checker.expect_global("int", expression[1], node)
    return "ref"


def item_rule(checker, expression, kinds, node):
    """a[e] is for an array."""
    checker.expect_global("array", expression[1], node)
    return ints_rule(checker, expression, kinds, node)


def item_reference_rule(checker, expression, kinds, node):
    """&a[e] is for an array."""
    item_rule(checker, expression, kinds, node)
    return "ref"


def at_rule(checker, expression, kinds, node):
    """*e takes a ref."""
    checker.expect("ref", kinds[0], node)
    return "int"


def ints_rule(checker, expression, kinds, node):
    """All parts are int."""
    for kind in kinds:
        checker.expect("int", kind, node)
    return "int"


def operation_rule(checker, expression, kinds, node):
    """== takes two of one kind, all other operations two ints."""
    if expression[1] == "==":
        checker.expect(kinds[0], kinds[1], node)
        return "int"
    return ints_rule(checker, expression, kinds, node)


def comma_rule(checker, expression, kinds, node):
    """A comma takes anything."""
    return kinds[1]


def choice_rule(checker, expression, kinds, node):
    """The condition is int, the arms are of one kind."""
    checker.expect("int", kinds[0], node)
    checker.expect(kinds[1], kinds[2], node)
    return kinds[1]


def set_rule(checker, expression, kinds, node):
    """= takes a value of the kind of its place."""
    kind = checker.kind_of_place(expression[1], kinds, node)
    checker.expect(kind, kinds[-1], node)
    return kind


def add_rule(checker, expression, kinds, node):
    """+= and ++ are for int."""
    checker.expect("int", checker.kind_of_place(expression[1], kinds, node), node)
    if expression[0] == "add":
        checker.expect("int", kinds[-1], node)
    return "int"


def call_rule(checker, expression, kinds, node):
    """A call has as many arguments as its function has parameters, and of their kinds."""
    name = expression[1]
    if name not in checker.called:
        checker.kind_of_name(name, node)
        checker.refuse("kind", node)
    params = checker.called[name]
    if len(params) != len(kinds):
        checker.refuse("many", node)
    for param, kind in zip(params, kinds):
        checker.expect(param[0], kind, node)
    return "int"


RULES = {
    "num": number_rule, "var": variable_rule, "ref": reference_rule, "item": item_rule,
    "refitem": item_reference_rule, "at": at_rule, "neg": ints_rule, "not": ints_rule,
    "print": ints_rule, "op": operation_rule, "and": ints_rule, "or": ints_rule,
    "comma": comma_rule, "cond": choice_rule, "set": set_rule, "add": add_rule, "inc": add_rule,
    "call": call_rule,
}
