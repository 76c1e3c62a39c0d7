"""Programs run from left to right by plain recursion, each write at once."""


class Blocked(Exception):
    """A step blocks; the plain run tells no more."""


class Returned(Exception):
    """A body returns."""

    def __init__(self, value):
        self.value = value


def wrap(number):
    """Return the value that agrees with a number in its last 32 bits."""
    last = number & 0xFFFFFFFF
    return last - (1 << 32) if last >> 31 else last


class Plain:
    """A run from left to right of a sound program; log has its accesses as pairs (PLACE, sort)."""

    def __init__(self, program, inputs):
        self.cells = {}
        for entry in program[0]:
            if entry[0] == "array":
                for index in range(entry[2]):
                    self.cells[(entry[1], index)] = 0
            else:
                self.cells[(entry[1], 0)] = entry[2] if entry[0] == "int" else entry[2:]
        self.functions = {function[0]: function for function in program[1]}
        self.output = []
        self.log = []
        self.body_many = 0
        value = self.call("main", inputs, 0)
        told = []
        for entry in program[0]:
            if entry[0] == "array":
                told.append(tuple(self.cells[(entry[1], index)] for index in range(entry[2])))
            else:
                told.append(self.cells[(entry[1], 0)])
        self.outcome = (("ended", value), tuple(self.output), tuple(told))

    def call(self, name, given, depth):
        if depth == 12:
            raise Blocked
        _, params, body = self.functions[name]
        frame = {param: value for (_, param), value in zip(params, given)}
        frame["body"] = self.body_many
        self.body_many += 1
        try:
            self.body(body, frame, depth)
        except Returned as back:
            return back.value
        return 0

    def body(self, body, frame, depth):
        for statement in body:
            if statement[0] == "let":
                frame[statement[2]] = self.value(statement[3], frame, depth)
                self.saw(frame, statement[2], "write")
            elif statement[0] == "do":
                self.value(statement[1], frame, depth)
            elif statement[0] == "return":
                raise Returned(self.value(statement[1], frame, depth))
            elif statement[0] == "if":
                taken = 2 if self.value(statement[1], frame, depth) else 3
                self.body(statement[taken], frame, depth)
            else:
                while self.value(statement[1], frame, depth):
                    self.body(statement[2], frame, depth)

    def saw(self, table, key, sort):
        """Put an access into the log."""
        place = ("global",) + key if table is self.cells else ("local", table["body"], key)
        self.log.append((place, sort))

    def place(self, lv, frame, depth):
        """Return the dict and the key of a place."""
        if lv[0] == "var":
            return (frame, lv[1]) if lv[1] in frame else (self.cells, (lv[1], 0))
        if lv[0] == "at":
            return self.cells, self.value(lv[1], frame, depth)
        key = (lv[1], self.value(lv[2], frame, depth))
        if key not in self.cells:
            raise Blocked
        return self.cells, key

    def value(self, e, frame, depth):
        word = e[0]
        if word == "num":
            return e[1]
        if word == "ref":
            return (e[1], 0)
        if word in ("var", "item", "at"):
            table, key = self.place(e, frame, depth)
            self.saw(table, key, "read")
            return table[key]
        if word == "refitem":
            return self.place(("item",) + e[1:], frame, depth)[1]
        if word in ("set", "add", "inc"):
            return self.change(e, frame, depth)
        if word in ("and", "or", "cond", "comma"):
            return self.chosen(e, frame, depth)
        if word == "call":
            return self.call(e[1], [self.value(part, frame, depth) for part in e[2]], depth + 1)
        if word == "op":
            left = self.value(e[2], frame, depth)
            return self.operate(e[1], left, self.value(e[3], frame, depth))
        part = self.value(e[1], frame, depth)
        if word == "print":
            self.output.append(part)
            self.log.append((("output",), "write"))
            return part
        return wrap(-part) if word == "neg" else int(not part)

    def chosen(self, e, frame, depth):
        first = self.value(e[1], frame, depth)
        if e[0] == "comma":
            return self.value(e[2], frame, depth)
        if e[0] == "cond":
            return self.value(e[2] if first else e[3], frame, depth)
        if e[0] == "and":
            return int(bool(first and self.value(e[2], frame, depth)))
        return int(bool(first or self.value(e[2], frame, depth)))

    def change(self, e, frame, depth):
        table, key = self.place(e[1], frame, depth)
        if e[0] == "inc":
            old = table[key]
            table[key] = wrap(old + 1)
            self.saw(table, key, "read")
            self.saw(table, key, "write")
            return old
        value = self.value(e[2], frame, depth)
        if e[0] == "add":
            self.saw(table, key, "read")
        self.saw(table, key, "write")
        table[key] = value if e[0] == "set" else wrap(table[key] + value)
        return table[key]

    def operate(self, sign, left, right):
        if sign == "==":
            return int(left == right)
        if sign == "<":
            return int(left < right)
        if sign == "*":
            return wrap(left * right)
        if sign in "+-":
            return wrap(left + right if sign == "+" else left - right)
        if right == 0:
            raise Blocked
        quotient = abs(left) // abs(right)
        if (left < 0) != (right < 0) and abs(left) > quotient * abs(right):
            quotient = -quotient - 1
        elif (left < 0) != (right < 0):
            quotient = -quotient
        return wrap(quotient) if sign == "/" else wrap(left - right * quotient)
