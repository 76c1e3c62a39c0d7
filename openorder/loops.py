"""The loops of a routine that have no loop in them."""

from openorder.rows import label_of


class Loop:
    """A loop: the ROW at which it begins, the one unless that leaves it, and its jump back.

    moved has the numbers of the ROWs of its body that are done when this is first entered.
    """

    def __init__(self, start, leave, back):
        self.start = start
        self.leave = leave
        self.back = back
        self.moved = []


def inmost_loops(rows):
    """Return the list of the loops that have no loop in them, and one unless that leaves them."""
    backs = [at for at, row in enumerate(rows) if row[0] == "jump" and row[1] <= at]
    loops = []
    for back in backs:
        start = rows[back][1]
        if any([start <= other < back for other in backs]):
            continue
        leaving = [at for at in range(start, back)
                   if rows[at][0] == "unless" and not start <= label_of(rows[at]) <= back]
        if len(leaving) == 1:
            loops.append(Loop(start, leaving[0], back))
    return loops
