"""A routine that is made to do with few registers."""

from openorder.liveness import neighbours_in
from openorder.masks import places_in
from openorder.rows import SLOT_PLACES, label_of, read_by, with_item, with_label, with_reads, written_by


class Fit:
    """The ROWs of a routine, and how many temporaries and slots they have.

    short has the temporaries that are filled just ahead of the one ROW that reads them, or spilled
    just behind the one that writes them: for these three registers are always enough.
    """

    def __init__(self, rows, registers):
        self.rows = rows
        self.registers = registers
        self.short = {}
        self.temporary_many = 1 + max([written_by(row) for row in rows])
        slots = [row[SLOT_PLACES[row[0]]] for row in rows if row[0] in SLOT_PLACES]
        self.slot_many = 1 + max(slots, default=-1)

    def fit(self):
        """Return the ROWs with registers in the place of the temporaries."""
        while True:
            given, left = self.give_out()
            if len(left) == 0:
                return tuple([in_registers(row, given) for row in self.rows])
            self.spill(left)

    def give_out(self):
        """Return a dict of registers by temporaries, and one of those for which there is none."""
        neighbours = {}
        for temporary, mask in neighbours_in(self.rows).items():
            neighbours[temporary] = places_in(mask)
        given = {}
        left = {}
        for temporary in neighbours:
            if temporary in self.short:
                given[temporary] = self.free_register(neighbours[temporary], given)
        for temporary in neighbours:
            if temporary not in self.short:
                self.give(temporary, neighbours, given, left)
        return given, left

    def free_register(self, others, given):
        """Return the least register that none of some temporaries has, or -1."""
        taken = {given[other]: True for other in others if other in given}
        for number in range(self.registers):
            if number not in taken:
                return number
        return -1

    def give(self, temporary, neighbours, given, left):
        """Give a temporary a register; if none is free, the one with most neighbours is left without."""
        found = self.free_register(neighbours[temporary], given)
        while found < 0:
            rivals = [other for other in neighbours[temporary] if other in given and other not in self.short]
            last = max(rivals + [temporary], key=lambda rival: len(neighbours[rival]))
            left[last] = True
            if last == temporary:
                return
            given.pop(last)
            found = self.free_register(neighbours[temporary], given)
        given[temporary] = found

    def spill(self, left):
        """Spill each of some temporaries behind the ROWs that write it, fill it ahead of its readers."""
        slots = {temporary: self.slot_many + at for at, temporary in enumerate(left)}
        self.slot_many += len(slots)
        made = []
        starts = []
        for row in self.rows:
            starts.append(len(made))
            made.extend(self.around(row, slots))
        starts.append(len(made))
        self.rows = [with_label(row, starts[label_of(row)]) if label_of(row) >= 0 else row for row in made]

    def around(self, row, slots):
        """Return a ROW with the fills that it needs ahead and the spill that it needs behind."""
        fills = {}
        made = []
        for temporary in read_by(row):
            if temporary in slots and temporary not in fills:
                fills[temporary] = self.short_one()
                made.append(("fill", fills[temporary], slots[temporary], row[-1]))
        made.append(with_reads(row, fills))
        written = written_by(row)
        if written in slots:
            passing = self.short_one()
            made[-1] = with_item(made[-1], 1, passing)
            made.append(("spill", slots[written], passing, row[-1]))
        return made

    def short_one(self):
        """Return a new temporary that holds its value only from one ROW to the next."""
        self.short[self.temporary_many] = True
        self.temporary_many += 1
        return self.temporary_many - 1


def in_registers(row, given):
    """Return a ROW with registers in the place of its temporaries."""
    row = with_reads(row, given)
    return with_item(row, 1, given[written_by(row)]) if written_by(row) >= 0 else row
