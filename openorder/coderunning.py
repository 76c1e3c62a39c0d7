"""A run of code at one moment."""

from openorder.arithmetic import calculated, wrapped
from openorder.bodies import DEEPEST
from openorder.cells import cells_at_first, values_told
from openorder.errors import OtherInputs


class Frame:
    """One body at work: the ROW that is reached, and its temporaries, slots, params and locals.

    target is the temporary for what the call returns that is done in it.
    """

    def __init__(self, routine, given):
        self.rows = routine[3]
        self.at = 0
        self.target = -1
        self.temporaries = {}
        self.slots = {}
        self.variables = {}
        for param, value in zip(routine[1], given):
            self.variables[param[1]] = value


class CodeRunning:
    """A run of code behind some of its ROWs; end is None as long as it goes on."""

    def __init__(self, code):
        self.entries, routines = code
        self.routines = {routine[0]: routine for routine in routines}
        self.sizes = {entry[1]: entry[2] for entry in self.entries if entry[0] == "array"}
        self.cells = cells_at_first(self.entries)
        self.output = []
        self.frames = []
        self.away = []
        self.done = 0
        self.end = None

    def begin(self, inputs):
        """Begin main with these inputs; raise OtherInputs(many) if it has other parameters."""
        main = self.routines["main"]
        if len(inputs) != len(main[1]):
            raise OtherInputs(len(main[1]))
        self.frames.append(Frame(main, inputs))

    def go(self, most):
        """Do ROWs until the run is over, it stops, or the most of them are done."""
        while self.end is None:
            frame = self.frames[-1]
            if frame.at == len(frame.rows):
                self.leave(0)
                continue
            row = frame.rows[frame.at]
            word = row[0]
            if word in HINDRANCES:
                find = HINDRANCES[word]
                why = find(self, frame, row)
                if why != "":
                    self.end = ("stopped", row[-1], why)
                    return
            if self.done == most:
                self.end = ("going",)
                return
            self.done += 1
            frame.at += 1
            doer = DOERS[word]
            doer(self, frame, row)

    def leave(self, value):
        """Leave the innermost body, which returns a value."""
        self.frames.pop()
        if len(self.frames) == 0:
            self.end = ("ended", value)
        else:
            frame = self.frames[-1]
            frame.temporaries[frame.target] = value

    def outcome(self):
        """Return the RESULT."""
        return (self.end, tuple(self.output), values_told(self.entries, self.cells))


def hindrance_of_item(running, frame, row):
    """geti and refi need an item that the array has."""
    return "" if 0 <= frame.temporaries[row[3]] < running.sizes[row[2]] else "index"


def hindrance_of_puti(running, frame, row):
    """puti needs an item that the array has."""
    return "" if 0 <= frame.temporaries[row[2]] < running.sizes[row[1]] else "index"


def hindrance_of_op(running, frame, row):
    """/ and ~ cannot be done by 0."""
    return "nought" if row[2] in ("/", "~") and frame.temporaries[row[4]] == 0 else ""


def hindrance_of_call(running, frame, row):
    """The deepest body calls nothing."""
    return "deep" if len(running.frames) > DEEPEST else ""


def do_num(running, frame, row):
    """t becomes a number."""
    frame.temporaries[row[1]] = row[2]


def do_ref(running, frame, row):
    """t becomes a reference."""
    frame.temporaries[row[1]] = (row[2], row[3])


def do_copy(running, frame, row):
    """t becomes a."""
    frame.temporaries[row[1]] = frame.temporaries[row[2]]


def do_get(running, frame, row):
    """t becomes the value of x."""
    name = row[2]
    cells = running.cells
    frame.temporaries[row[1]] = cells[name][0] if name in cells else frame.variables[name]


def do_geti(running, frame, row):
    """t becomes the value of item i of A."""
    frame.temporaries[row[1]] = running.cells[row[2]][frame.temporaries[row[3]]]


def do_getat(running, frame, row):
    """t becomes the value of the cell that r refers to."""
    name, index = frame.temporaries[row[2]]
    frame.temporaries[row[1]] = running.cells[name][index]


def do_refi(running, frame, row):
    """t becomes the reference to item i of A."""
    frame.temporaries[row[1]] = (row[2], frame.temporaries[row[3]])


def do_put(running, frame, row):
    """x becomes a."""
    name = row[1]
    value = frame.temporaries[row[2]]
    if name in running.cells:
        running.cells[name][0] = value
    else:
        frame.variables[name] = value


def do_puti(running, frame, row):
    """Item i of A becomes a."""
    running.cells[row[1]][frame.temporaries[row[2]]] = frame.temporaries[row[3]]


def do_putat(running, frame, row):
    """The cell that r refers to becomes a."""
    name, index = frame.temporaries[row[1]]
    running.cells[name][index] = frame.temporaries[row[2]]


def do_op(running, frame, row):
    """t becomes what an operation gives."""
    left, right = frame.temporaries[row[3]], frame.temporaries[row[4]]
    frame.temporaries[row[1]] = calculated(row[2], left, right)


def do_neg(running, frame, row):
    """t becomes -a."""
    frame.temporaries[row[1]] = wrapped(-frame.temporaries[row[2]])


def do_not(running, frame, row):
    """t becomes !a."""
    frame.temporaries[row[1]] = 1 if frame.temporaries[row[2]] == 0 else 0


def do_unless(running, frame, row):
    """Go on at row w if a is 0."""
    if frame.temporaries[row[1]] == 0:
        frame.at = row[2]


def do_jump(running, frame, row):
    """Go on at row w."""
    frame.at = row[1]


def do_arg(running, frame, row):
    """Put a away."""
    running.away.append(frame.temporaries[row[1]])


def do_call(running, frame, row):
    """Begin the body of a routine with the last values put away."""
    first = len(running.away) - row[3]
    given = running.away[first:]
    del running.away[first:]
    frame.target = row[1]
    running.frames.append(Frame(running.routines[row[2]], given))


def do_print(running, frame, row):
    """Put a behind the output."""
    running.output.append(frame.temporaries[row[1]])


def do_return(running, frame, row):
    """Return a."""
    running.leave(frame.temporaries[row[1]])


def do_spill(running, frame, row):
    """Slot k becomes a."""
    frame.slots[row[1]] = frame.temporaries[row[2]]


def do_fill(running, frame, row):
    """t becomes slot k."""
    frame.temporaries[row[1]] = frame.slots[row[2]]


HINDRANCES = {
    "geti": hindrance_of_item, "refi": hindrance_of_item, "puti": hindrance_of_puti,
    "op": hindrance_of_op, "call": hindrance_of_call,
}
DOERS = {
    "num": do_num, "ref": do_ref, "copy": do_copy, "get": do_get, "geti": do_geti,
    "getat": do_getat, "refi": do_refi, "put": do_put, "puti": do_puti, "putat": do_putat,
    "op": do_op, "neg": do_neg, "not": do_not, "unless": do_unless, "jump": do_jump,
    "arg": do_arg, "call": do_call, "print": do_print, "return": do_return, "spill": do_spill,
    "fill": do_fill,
}
