"""Code looked at from outside: run row by row by a machine of its own, and checked for its form."""

from openorder.arithmetic import LEAST
from tests.plain import wrap

SORTS = {
    "num": "tvn", "ref": "txin", "copy": "ttn", "get": "txn", "geti": "txtn", "getat": "ttn", "refi": "txtn",
    "put": "xtn", "puti": "xttn", "putat": "ttn", "op": "tsttn", "neg": "ttn", "not": "ttn", "unless": "twn",
    "jump": "wn", "arg": "tn", "call": "txin", "print": "tn", "return": "tn", "spill": "ktn", "fill": "tkn",
}
GIVING = ("num", "ref", "copy", "get", "geti", "getat", "refi", "op", "neg", "not", "call", "fill")


def written(row):
    """Return the list of the temporaries that a ROW writes."""
    return [row[1]] if row[0] in GIVING else []


def reads(row):
    """Return the list of the temporaries that a ROW reads."""
    found = [item for item, sort in zip(row[1:], SORTS[row[0]]) if sort == "t"]
    return found[1:] if row[0] in GIVING else found


def temporaries(routine):
    """Return the set of the temporaries of a routine."""
    return {temporary for row in routine[3] for temporary in written(row) + reads(row)}


def many_rows(code, word):
    """Return how many ROWs of a word each routine has."""
    return [sum(row[0] == word for row in routine[3]) for routine in code[1]]


def wrong_rows(code, nodes):
    """Return the ROWs that are none; nodes is the number of the program's nodes."""
    found = []
    for name, params, inner, rows in code[1]:
        for row in rows:
            is_right = isinstance(row, tuple) and row[0] in SORTS and len(row) == len(SORTS[row[0]]) + 1
            if not is_right or not all(is_item(*told, rows, nodes) for told in zip(row[1:], SORTS[row[0]])):
                found.append((name, row))
    return found


def is_item(item, sort, rows, nodes):
    """Tell whether an item may stand in a ROW."""
    if sort == "x":
        return isinstance(item, str)
    if sort == "s":
        return item in ("+", "-", "*", "/", "~", "<", "==")
    if not isinstance(item, int) or isinstance(item, bool):
        return False
    if sort == "v":
        return LEAST <= item <= -1 - LEAST
    return 0 <= item < {"w": len(rows) + 1, "n": nodes}.get(sort, 1 << 31)


class Stopped(Exception):
    """Code stops."""

    def __init__(self, end):
        self.end = end


class Told:
    """A run of code; log has its accesses, as pairs (PLACE, sort), names has those that were met."""

    def __init__(self, code, inputs, most=20000):
        self.code = code
        self.most = most
        self.done = 0
        self.cells = {}
        for entry in code[0]:
            size = entry[2] if entry[0] == "array" else 1
            first = 0 if entry[0] == "array" else entry[2] if entry[0] == "int" else tuple(entry[2:])
            for index in range(size):
                self.cells[(entry[1], index)] = first
        self.sizes = {entry[1]: entry[2] for entry in code[0] if entry[0] == "array"}
        self.output = []
        self.log = []
        self.away = []
        self.bodies = 0
        self.counts = {}
        try:
            self.end = ("ended", self.body("main", inputs, 0))
        except Stopped as stop:
            self.end = stop.end
        values = tuple(tuple(self.cells[(entry[1], index)] for index in range(entry[2])) if entry[0] == "array"
                       else self.cells[(entry[1], 0)] for entry in code[0])
        self.outcome = (self.end, tuple(self.output), values)

    def body(self, name, given, depth):
        _, params, inner, rows = [routine for routine in self.code[1] if routine[0] == name][0]
        frame = {variable: None for _, variable in inner}
        frame.update({param: value for (_, param), value in zip(params, given)})
        body = (self.bodies, depth, frame, {}, {})
        self.bodies += 1
        at = 0
        while at < len(rows):
            self.counts[(name, at)] = self.counts.get((name, at), 0) + 1
            at, value = self.row(rows[at], at, body)
            if value is not None:
                return value
        return 0

    def stop(self, word, row):
        raise Stopped(("stopped", row[-1], word))

    def begin(self):
        """Count a ROW that can be done."""
        if self.done == self.most:
            raise Stopped(("going",))
        self.done += 1

    def place(self, body, name):
        if (name, 0) in self.cells:
            return self.cells, (name, 0), ("global", name, 0)
        return body[2], name, ("local", body[0], name)

    def item(self, name, index, row):
        if not 0 <= index < self.sizes[name]:
            self.stop("index", row)
        return self.cells, (name, index), ("global", name, index)

    def target(self, row, body):
        """Return the place that a ROW accesses."""
        kept = body[3]
        word = row[0]
        if word == "get":
            return self.place(body, row[2])
        if word == "put":
            return self.place(body, row[1])
        if word == "geti":
            return self.item(row[2], kept[row[3]], row)
        if word == "puti":
            return self.item(row[1], kept[row[2]], row)
        reference = kept[row[2] if word == "getat" else row[1]]
        return self.cells, reference, ("global",) + reference

    def row(self, row, at, body):
        """Do a ROW; return where code goes on, and what is returned."""
        _, depth, _, kept, slots = body
        word = row[0]
        if word in ("get", "geti", "getat", "put", "puti", "putat"):
            table, key, place = self.target(row, body)
            self.begin()
            if word.startswith("get"):
                kept[row[1]] = table[key]
            else:
                table[key] = kept[row[-2]]
            self.log.append((place, "read" if word.startswith("get") else "write"))
            return at + 1, None
        if word == "call":
            if depth == 11:
                self.stop("deep", row)
            self.begin()
            given = [self.away.pop() for _ in range(row[3])]
            kept[row[1]] = self.body(row[2], given[::-1], depth + 1)
            return at + 1, None
        if word == "refi":
            self.item(row[2], kept[row[3]], row)
        if word == "op" and row[2] in "/~" and kept[row[4]] == 0:
            self.stop("nought", row)
        self.begin()
        if word in ("jump", "unless"):
            return (row[-2] if word == "jump" or kept[row[1]] == 0 else at + 1), None
        if word == "return":
            return at, kept[row[1]]
        if word == "arg":
            self.away.append(kept[row[1]])
        elif word == "print":
            self.output.append(kept[row[1]])
            self.log.append((("output",), "write"))
        elif word == "spill":
            slots[row[1]] = kept[row[2]]
        elif word == "fill":
            kept[row[1]] = slots[row[2]]
        else:
            kept[row[1]] = self.value(row, kept)
        return at + 1, None

    def value(self, row, kept):
        """Return what a ROW works out of temporaries alone."""
        word = row[0]
        if word == "num":
            return row[2]
        if word == "ref":
            return (row[2], row[3])
        if word == "copy":
            return kept[row[2]]
        if word == "refi":
            return (row[2], kept[row[3]])
        if word == "neg":
            return wrap(-kept[row[2]])
        if word == "not":
            return int(kept[row[2]] == 0)
        left, right = kept[row[3]], kept[row[4]]
        if row[2] in ("==", "<"):
            return int(left == right if row[2] == "==" else left < right)
        return wrap({"+": lambda: left + right, "-": lambda: left - right, "*": lambda: left * right,
                     "/": lambda: left // right, "~": lambda: left % right}[row[2]]())
