"""The pass "lift": what a loop works out again and again is done once, when its body is first entered."""

from openorder.loops import inmost_loops
from openorder.rows import label_of, with_item, with_label, with_reads, read_by, written_by

LIFTED = ("num", "ref", "op", "neg", "not", "get")


def lift(draft, facts):
    """Move what gives the same every time ahead of the bodies of loops, until nothing is left."""
    stops = dict(draft.stretches())
    loops = []
    for loop in inmost_loops(draft.rows):
        find_moved(draft, facts, loop, stops[loop.leave + 1])
        if len(loop.moved) > 0:
            loops.append(loop)
            for at in loop.moved:
                draft.steps[at] = "lifted"
    if len(loops) > 0:
        draft.lay(Moving(draft, loops).rows())


def find_moved(draft, facts, loop, stop):
    """Find the ROWs of the first stretch of a loop's body, to stop, that give the same every time."""
    changing = {}
    for at in range(loop.start, loop.back + 1):
        changing[written_by(draft.rows[at])] = True
    for at in range(loop.leave + 1, stop):
        row = draft.rows[at]
        if row[0] not in LIFTED or not facts.cannot_stop(draft, row):
            continue
        if any([read in changing for read in draft.sources_of(row)]):
            continue
        if row[0] == "get" and is_written(draft, facts, loop, row[2]):
            continue
        loop.moved.append(at)
        changing.pop(row[1])


def is_written(draft, facts, loop, name):
    """Tell whether something in a loop may write a variable."""
    for at in range(loop.start, loop.back):
        row = draft.rows[at]
        place = facts.place(draft, row)
        if place != () and place[0] == "cell" and place[1] != name:
            continue
        if name in facts.names(row, "write"):
            return True
    return False


class Moving:
    """The ROWs of a routine in a new order.

    A loop with moved ROWs gets its condition a second time, at its end, from where it jumps back to
    what is left of its body: so the moved ROWs stand between the first condition and this body.
    order has the old numbers of the ROWs, places their new ones. again tells, for each place at which
    a second condition has a ROW, the old number of the unless behind this; second has the places by
    the old numbers. bodies and starts are by the numbers of the jumps back.
    """

    def __init__(self, draft, loops):
        self.draft = draft
        self.order = []
        self.places = {}
        self.again = {}
        self.second = {}
        self.bodies = {}
        self.starts = {loop.back: loop.start for loop in loops}
        at = 0
        for loop in loops:
            self.place(list(range(at, loop.leave + 1)) + loop.moved)
            self.bodies[loop.back] = len(self.order)
            self.place([row for row in range(loop.leave + 1, loop.back) if row not in loop.moved])
            for row in range(loop.start, loop.leave + 1):
                self.second[row] = len(self.order)
                self.again[len(self.order)] = loop.leave
                self.order.append(row)
            self.place([loop.back])
            at = loop.back + 1
        self.place(list(range(at, len(draft.rows) + 1)))

    def place(self, rows):
        """Put ROWs behind those that are placed already."""
        for row in rows:
            self.places[row] = len(self.order)
            self.order.append(row)

    def rows(self):
        """Return the list of the ROWs in their new order; second conditions have temporaries of their own."""
        names = {}
        fresh = 1 + max(list(self.draft.writers))
        for row in self.second:
            written = written_by(self.draft.rows[row])
            if written >= 0 and written not in names:
                names[written] = fresh
                fresh += 1
        made = []
        for place, old in enumerate(self.order[:-1]):
            row = self.draft.rows[old]
            if label_of(row) >= 0:
                row = with_label(row, self.new_label(place, old, label_of(row)))
            if place in self.again:
                row = renamed(row, names)
            made.append(row)
        return made

    def new_label(self, place, old, label):
        """Return the new number of the ROW to which the one at a place leads."""
        if old in self.bodies:
            return self.bodies[old]
        if place in self.again and label <= self.again[place]:
            return self.second[label]
        if label in self.starts:
            return self.second[self.starts[label]]
        return self.places[label]


def renamed(row, names):
    """Return a ROW with other temporaries in the place of some."""
    row = with_reads(row, {read: names[read] for read in read_by(row) if read in names})
    return with_item(row, 1, names[row[1]]) if written_by(row) >= 0 else row
