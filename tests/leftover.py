"""What the table of [19] says could still be done to code, taken literally."""

from openorder.checker import may_access
from openorder.nodes import node_at, top_at
from openorder.sequence import unsequenced
from tests.codes import GIVING, reads, written
from tests.runs import first_node

READING = ("get", "geti", "getat")
PUTTING = ("put", "puti", "putat")


class Left:
    """A routine of code, and what may still be done to it."""

    def __init__(self, program, routine, known=None):
        self.program = program
        self.params, self.inner, self.rows = routine[1:]
        self.globals = {entry[1]: entry for entry in program[0]}
        self.known = {} if known is None else known

    def by(self, word):
        """Return the list of the pairs (row, what) that a pass could do."""
        return {"fold": self.folds, "share": self.shares, "carry": self.carries, "drop": self.drops,
                "lift": self.lifts}[word]()

    def writers(self, temporary):
        return [row for row in self.rows if temporary in written(row)]

    def means(self, temporary):
        """Return the temporary for which one stands."""
        writers = self.writers(temporary)
        while len(writers) == 1 and writers[0][0] == "copy":
            temporary = writers[0][2]
            writers = self.writers(temporary)
        return temporary

    def number(self, temporary):
        writers = self.writers(self.means(temporary))
        return writers[0][2] if len(writers) == 1 and writers[0][0] == "num" else None

    def ways(self, at):
        """Return the numbers of the ROWs to which code may go on behind one."""
        row = self.rows[at]
        if row[0] == "jump":
            return [row[1]]
        if row[0] == "return":
            return []
        return [at + 1, row[2]] if row[0] == "unless" else [at + 1]

    def stretch(self, at):
        """Return the numbers of the ROWs of the stretch of a ROW, up to itself and behind it."""
        starts = {0} | {way for other in range(len(self.rows)) if self.rows[other][0] in ("unless", "jump", "return")
                        for way in self.ways(other) + [other + 1]}
        ahead, behind = [], []
        here = at
        while here not in starts:
            here -= 1
            ahead.append(here)
        here = at + 1
        while here < len(self.rows) and here not in starts:
            behind.append(here)
            here += 1
        return ahead, behind

    def folds(self):
        found = []
        for at, row in enumerate(self.rows):
            numbers = [self.number(temporary) for temporary in reads(row)]
            if row[0] in ("op", "neg", "not", "copy", "unless") and None not in numbers:
                if row[0] != "op" or row[2] not in "/~" or numbers[1] != 0:
                    found.append((at, "known"))
        reached, left = set(), [0]
        while left:
            at = left.pop()
            if at < len(self.rows) and at not in reached:
                reached.add(at)
                left += self.ways(at)
        return found + [(at, "unreached") for at in range(len(self.rows)) if at not in reached]

    def alike(self, row):
        operands = reads(row)
        others = [item for place, item in enumerate(row[2:-1]) if row[0] in ("num", "ref") or place == 0 and row[0] in ("op", "refi")]
        return (row[0], others, [self.means(temporary) for temporary in operands])

    def shares(self):
        found = []
        for at, row in enumerate(self.rows):
            if row[0] in ("op", "neg", "not", "num", "ref", "refi"):
                if any(self.alike(self.rows[one]) == self.alike(row) for one in self.stretch(at)[0]
                       if self.rows[one][0] == row[0]):
                    found.append((at, "shared"))
        return found

    def item(self, row):
        return (row[-1], "call" if row[0] == "call" else "write" if row[0] in PUTTING else "step")

    def may(self, row, sort):
        """Return the set of the names that a ROW may read or write."""
        if row[0] not in READING + PUTTING + ("call",):
            return set()
        key = (self.item(row), sort)
        if key not in self.known:
            self.known[key] = {name for name, told in may_access(self.program, key[0]) if told == sort}
        return self.known[key]

    def place(self, row):
        """Return the place of a ROW: (name, number), or what else makes it the same, or None."""
        word = row[0]
        if word in ("get", "put"):
            return (row[2 if word == "get" else 1], 0)
        if word in ("geti", "puti"):
            name, index = row[2:4] if word == "geti" else row[1:3]
            number = self.number(index)
            return (name, number) if number is not None else ("item", name, self.means(index))
        if word in ("getat", "putat"):
            leading = self.means(row[2] if word == "getat" else row[1])
            writers = self.writers(leading)
            if len(writers) == 1 and writers[0][0] == "ref":
                return writers[0][2:4]
            return ("at", leading)
        return None

    def names(self, row):
        """Return the set of the names that the place of a ROW may have."""
        place = self.place(row)
        if place is not None and place[0] != "at":
            return {place[-2]}
        return self.may(row, "read") | self.may(row, "write")

    def may_meet(self, row, sort, other):
        """Tell whether a ROW may read or write the place of another one."""
        if not self.may(row, sort):
            return False
        places = self.place(row), self.place(other)
        if all(place is not None and len(place) == 2 and place[0] != "at" for place in places):
            return places[0] == places[1]
        told = {places[0][0]} if places[0] is not None and len(places[0]) == 2 and places[0][0] != "at" else self.may(row, sort)
        return bool(told & self.names(other))

    def are_unsequenced(self, one, other):
        tops = [top_at(self.program, self.rows[at][-1]) for at in (one, other)]
        if tops[0] != tops[1]:
            return False
        first = first_node(self.program, tops[0])
        pair = sorted((node - first, kind) for node, kind in (self.item(self.rows[one]), self.item(self.rows[other])))
        key = ("unsequenced", tops[0])
        if key not in self.known:
            self.known[key] = set(unsequenced(node_at(self.program, tops[0])))
        return tuple(pair) in self.known[key]

    def carries(self):
        found = []
        for at, row in enumerate(self.rows):
            if row[0] not in READING:
                continue
            between = []
            for one in self.stretch(at)[0]:
                if self.place(self.rows[one]) is not None and self.place(self.rows[one]) == self.place(row):
                    if not between:
                        found.append((at, "carried"))
                    elif all(self.are_unsequenced(other, one) or self.are_unsequenced(other, at) for other in between):
                        found.append((at, "trusted"))
                    break
                if self.may_meet(self.rows[one], "write", row):
                    between.append(one)
        return found

    def cannot_stop(self, row):
        if row[0] == "op" and row[2] in "/~":
            return self.number(row[4]) not in (None, 0)
        if row[0] in ("geti", "refi"):
            return self.number(row[3]) is not None and 0 <= self.number(row[3]) < self.globals[row[2]][2]
        return row[0] != "call"

    def drops(self):
        found = []
        read = {self.means(temporary) for row in self.rows for temporary in reads(row)}
        told = {row[2] for row in self.rows if row[0] == "get"}
        for at, row in enumerate(self.rows):
            if row[0] in GIVING and row[1] not in read and self.cannot_stop(row):
                found.append((at, "unused"))
            if row[0] == "put" and row[1] not in self.globals and row[1] not in told:
                found.append((at, "unused"))
            if row[0] != "put":
                continue
            for other in self.stretch(at)[1]:
                if self.rows[other][:2] == row[:2]:
                    found.append((at, "overwritten"))
                    break
                if self.may_meet(self.rows[other], "read", row):
                    break
        return found

    def lifts(self):
        found = []
        backs = [at for at, row in enumerate(self.rows) if row[0] == "jump" and row[1] <= at]
        for back in backs:
            start = self.rows[back][1]
            inside = range(start, back + 1)
            leaves = [at for at in inside if self.rows[at][0] == "unless" and self.rows[at][2] not in inside]
            if len([other for other in backs if other in inside]) > 1 or len(leaves) != 1:
                continue
            changing = {temporary for at in inside for temporary in written(self.rows[at])}
            for at in [leaves[0] + 1] + self.stretch(leaves[0] + 1)[1]:
                row = self.rows[at]
                if row[0] not in ("num", "ref", "op", "neg", "not", "get") or not self.cannot_stop(row):
                    continue
                if row[0] == "get" and any(self.may_meet(self.rows[other], "write", row) for other in inside):
                    continue
                if not {self.means(temporary) for temporary in reads(row)} & changing:
                    found.append((at, "lifted"))
        return found


def left_by(program, code, word):
    """Return what a pass could do to code, as triples (routine, row, what)."""
    known = {}
    return [(routine[0], at, what) for routine in code[1] for at, what in Left(program, routine, known).by(word)]
