"""What the ROWs of a program's code may read and write, and which of them stop."""

from openorder.refusals import Refusals

READING = ("get", "geti", "getat")
PUTTING = ("put", "puti", "putat")
NEVER_STOPPING = ("num", "ref", "copy", "get", "getat", "neg", "not")


class Facts:
    """What a program's ITEMs may access, found out when it is first asked for: many passes do without."""

    def __init__(self, program):
        self.program = program
        self.sizes = {entry[1]: entry[2] for entry in program[0] if entry[0] == "array"}
        self.variables = {entry[1]: True for entry in program[0]}
        self.told = {}
        self.kept = None

    def refusals(self):
        """Return what the checker knows of the program."""
        if self.kept is None:
            self.kept = Refusals(self.program)
        return self.kept

    def names(self, row, sort):
        """Return the dict of the names that a ROW may access in this sort, "read" or "write"."""
        if not is_accessing(row):
            return {}
        key = (item_of(row), sort)
        if key not in self.told:
            found = {}
            for name, told in self.refusals().accesses_of(key[0]):
                if told == sort:
                    found[name] = True
            self.told[key] = found
        return self.told[key]

    def top_of(self, row):
        """Return the last node of the full expression from which a ROW comes."""
        return self.refusals().layout.top_of(row[-1])

    def are_unsequenced(self, one, other):
        """Tell whether the ITEMs of two ROWs of one full expression are unsequenced."""
        return self.refusals().orders.are_unsequenced(item_of(one), item_of(other))

    def cannot_stop(self, draft, row):
        """Tell whether a ROW never stops code."""
        word = row[0]
        if word == "op":
            return row[2] not in ("/", "~") or draft.number(row[4]) not in (None, 0)
        if word in ("geti", "refi"):
            index = draft.number(row[3])
            return index is not None and 0 <= index < self.sizes[row[2]]
        return word in NEVER_STOPPING

    def place(self, draft, row):
        """Return what tells the place that a ROW reads or writes, () if it is no one place.

        It is ("cell", name, index), ("item", array, temporary) or ("at", temporary).
        """
        word = row[0]
        if word in ("get", "put"):
            return ("cell", row[2] if word == "get" else row[1], 0)
        if word in ("geti", "puti"):
            array, index = (row[2], row[3]) if word == "geti" else (row[1], row[2])
            number = draft.number(index)
            return ("item", array, draft.source(index)) if number is None else ("cell", array, number)
        if word in ("getat", "putat"):
            leading = draft.source(row[2] if word == "getat" else row[1])
            writer = draft.only_writer(leading)
            if writer is not None and writer[0] == "ref":
                return ("cell", writer[2], writer[3])
            return ("at", leading)
        return ()


def is_accessing(row):
    """Tell whether a ROW reads or writes places, by itself or in a call."""
    return row[0] in READING or row[0] in PUTTING or row[0] == "call"


def item_of(row):
    """Return the ITEM that makes the accesses of a ROW."""
    if row[0] == "call":
        return (row[-1], "call")
    return (row[-1], "write" if row[0] in PUTTING else "step")
