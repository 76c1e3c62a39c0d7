"""Programs made by chance, always the same ones for the same seed."""

import random

SIGNS = ("+", "-", "*", "/", "~", "<", "==")


class Maker:
    """Makes sound programs; what nests deeper than the levels left is a leaf."""

    def __init__(self, seed, branches=True, calls=True):
        self.chance = random.Random(seed)
        self.branches = branches
        self.calls = calls
        self.globals = (("int", "x", 3), ("int", "y", -2), ("array", "a", 3), ("ref", "p", "x", 0),
                        ("ref", "q", "a", 1))
        self.functions = []
        self.ints = []
        self.refs = []
        self.fresh = 0

    def program(self, functions=2, statements=3, level=3):
        """Make a PROGRAM; main has two inputs."""
        made = []
        for number in range(functions):
            name = "main" if number == functions - 1 else f"f{number}"
            params = (("int", "k"), ("int", "m"))
            if name != "main":
                params = (("int", "k"), ("ref", "r"))[:self.chance.randrange(3)]
            self.ints = ["x", "y"] + [param for kind, param in params if kind == "int"]
            self.refs = ["p", "q"] + [param for kind, param in params if kind == "ref"]
            made.append((name, params, self.body(statements, level, 2)))
            self.functions.append((name, params))
        return (self.globals, tuple(made))

    def body(self, statements, level, nests):
        """Make the statements of a body."""
        ints, refs = list(self.ints), list(self.refs)
        made = tuple(self.statement(level, nests) for _ in range(self.chance.randint(1, statements)))
        self.ints, self.refs = ints, refs
        return made

    def statement(self, level, nests):
        """Make a statement; a while counts down a local."""
        roll = self.chance.randrange(10)
        if roll < 2:
            self.fresh += 1
            kind = self.chance.choice(("int", "ref"))
            name = f"t{self.fresh}"
            value = self.int(level) if kind == "int" else self.ref(level)
            (self.ints if kind == "int" else self.refs).append(name)
            return ("let", kind, name, value)
        if roll == 2 and nests > 0:
            other = self.body(2, level, nests - 1) if self.chance.random() < 0.5 else ()
            return ("if", self.int(level), self.body(2, level, nests - 1), other)
        if roll == 3 and nests > 0:
            return ("while", ("op", "<", ("add", ("var", "y"), ("num", 1), 0), ("num", 2), 0),
                    self.body(2, level, nests - 1))
        if roll == 4:
            return ("return", self.int(level))
        return ("do", self.any(level))

    def mark(self):
        return 1 if self.chance.random() < 0.15 else 0

    def any(self, level):
        """Make an expression of either kind."""
        return self.int(level) if self.chance.random() < 0.8 else self.ref(level)

    def index(self, level):
        """Make an index that is seldom wrong."""
        if level > 0 and self.chance.random() < 0.2:
            return self.int(level - 1)
        return ("num", self.chance.randrange(3))

    def place(self, level):
        """Make an lv of an int."""
        roll = self.chance.randrange(3)
        if roll == 0:
            return ("item", "a", self.index(level), 0)
        if roll == 1:
            return ("at", self.ref(level), 0)
        return ("var", self.chance.choice(self.ints))

    def int(self, level):
        """Make an expression of kind int."""
        if level <= 0:
            if self.chance.random() < 0.5:
                return ("num", self.chance.choice((0, 1, 2, 7, 2147483647)))
            return ("var", self.chance.choice(self.ints))
        makers = [self.operation, self.operation, self.single, self.change, self.change, self.item]
        if self.branches:
            makers += [self.logic, self.choice]
        makers.append(self.comma)
        if self.calls and self.functions:
            makers.append(self.call)
        return self.chance.choice(makers)(level - 1)

    def operation(self, level):
        sign = self.chance.choice(SIGNS)
        if sign == "==" and self.chance.random() < 0.3:
            return ("op", sign, self.ref(level), self.ref(level), self.mark())
        return ("op", sign, self.int(level), self.int(level), self.mark())

    def single(self, level):
        word = self.chance.choice(("neg", "not", "print", "at"))
        part = self.ref(level) if word == "at" else self.int(level)
        return (word, part, self.mark())

    def change(self, level):
        place = self.place(level)
        word = self.chance.choice(("set", "add", "inc"))
        if word == "inc":
            return ("inc", place, 0 if place[0] == "var" else self.mark())
        return (word, place, self.int(level), self.mark())

    def item(self, level):
        return ("item", "a", self.index(level), self.mark())

    def logic(self, level):
        return (self.chance.choice(("and", "or")), self.int(level), self.int(level))

    def choice(self, level):
        return ("cond", self.int(level), self.int(level), self.int(level))

    def comma(self, level):
        return ("comma", self.any(level), self.int(level))

    def call(self, level):
        name, params = self.chance.choice(self.functions)
        given = tuple(self.int(level) if kind == "int" else self.ref(level) for kind, _ in params)
        return ("call", name, given, self.mark() if given else 0)

    def ref(self, level):
        """Make an expression of kind ref."""
        roll = self.chance.randrange(8 if level > 0 else 3)
        if roll == 0:
            return ("ref", self.chance.choice(("x", "y")))
        if roll < 3:
            return ("var", self.chance.choice(self.refs))
        if roll == 3 and self.branches:
            return ("cond", self.int(level - 1), self.ref(level - 1), self.ref(level - 1))
        if roll == 4:
            return ("comma", self.any(level - 1), self.ref(level - 1))
        if roll == 5:
            return ("set", ("var", self.chance.choice(self.refs)), self.ref(level - 1), self.mark())
        return ("refitem", "a", self.index(level), self.mark())


class Clasher(Maker):
    """Makes programs over few names that change much and seldom block: many of them meet conflicts."""

    def __init__(self, seed, branches=True, calls=True, marks=0.15):
        super().__init__(seed, branches, calls)
        self.marks = marks

    def mark(self):
        return 1 if self.chance.random() < self.marks else 0

    def statement(self, level, nests):
        if self.chance.random() < 0.6:
            return ("do", self.operation(level - 1))
        return super().statement(level, nests if self.branches else 0)

    def int(self, level):
        if level <= 0:
            if self.chance.random() < 0.4:
                return ("num", self.chance.randrange(3))
            return ("var", self.chance.choice(self.ints[:2]))
        makers = [self.operation, self.operation, self.change, self.change, self.change, self.single]
        if self.branches:
            makers += [self.logic, self.choice, self.item]
        if self.calls and self.functions:
            makers += [self.call, self.call]
        return self.chance.choice(makers)(level - 1)

    def operation(self, level):
        return ("op", self.chance.choice("+-*<"), self.int(level), self.int(level), self.mark())

    def place(self, level):
        roll = self.chance.randrange(6 if self.branches else 4)
        if roll < 4:
            return ("var", self.chance.choice(self.ints[:2]))
        return ("at", self.ref(level), 0) if roll == 4 else ("item", "a", self.index(level), 0)


class Looper(Maker):
    """Makes programs with many loops, which mostly come to an end, and much that stays the same in them."""

    def __init__(self, seed, branches=True, calls=True):
        super().__init__(seed, branches, calls)
        self.loops = 0

    def mark(self):
        return 1 if self.chance.random() < 0.05 else 0

    def statement(self, level, nests):
        roll = self.chance.randrange(10)
        if roll < 4 and nests > 0:
            return self.loop(level, nests)
        if roll < 7:
            place = ("var", self.chance.choice(self.ints))
            return ("do", (self.chance.choice(("set", "add")), place, self.int(level), self.mark()))
        return super().statement(level, nests if roll == 7 else 0)

    def loop(self, level, nests):
        """Make a while over a name of its own, by which nothing else is changed; else one that may not end."""
        counter = self.chance.choice(("y", "x", "k"))
        if counter not in self.ints:
            counter = "y"
        count = ("inc", ("var", counter), 0)
        bound = ("num", self.chance.randrange(-3, 6) % 6)
        if self.chance.random() < 0.2:
            condition = ("op", "<", count, ("var", self.chance.choice(self.ints)), 0)
        else:
            condition = ("op", "<", count, bound, 0)
        roll = self.chance.randrange(6)
        if roll == 0:
            condition = ("and", condition, self.int(1))
        elif roll == 1:
            condition = ("comma", self.int(1), condition)
        elif roll == 2:
            condition = ("op", "*", condition, self.int(1), 0)
        elif roll == 3:
            condition = ("and", self.int(1), condition)
        return ("while", condition, self.body(3, level, nests - 1))

    def program(self, functions=2, statements=3, level=3, nests=3):
        return super().program(functions, statements, level)

    def place(self, level):
        roll = self.chance.randrange(8)
        if roll < 5:
            return ("var", self.chance.choice(self.ints))
        return ("at", self.ref(level), 0) if roll < 7 else ("item", "a", self.index(level), 0)
