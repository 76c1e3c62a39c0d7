"""A routine while a pass changes it."""

from openorder.rows import (
    goes_on_behind, label_of, read_by, with_label, with_reads, written_by,
)


class Draft:
    """The ROWs of a routine, which keep their numbers: one that is gone is None.

    steps has what was done to ROWs, by their numbers; writers the numbers of the ROWs that write
    each temporary.
    """

    def __init__(self, routine):
        self.name, self.params, self.inner, rows = routine
        self.rows = []
        self.writers = {}
        self.steps = {}
        self.lay(rows)

    def lay(self, rows):
        """Put other ROWs in the place of all, with new numbers."""
        self.rows = list(rows)
        self.writers = {}
        for at, row in enumerate(rows):
            if written_by(row) >= 0:
                self.writers.setdefault(written_by(row), []).append(at)

    def change(self, at, row, what):
        """Put another ROW, which writes the same temporary, in the place of one."""
        self.rows[at] = row
        self.steps[at] = what

    def drop(self, at, what):
        """Let a ROW go."""
        written = written_by(self.rows[at])
        if written >= 0:
            self.writers[written].remove(at)
        self.rows[at] = None
        self.steps[at] = what

    def only_writer(self, temporary):
        """Return the only ROW that writes a temporary, or None if there are several."""
        writers = self.writers[temporary]
        return self.rows[writers[0]] if len(writers) == 1 else None

    def source(self, temporary):
        """Return the temporary for which one stands that is only written by a copy."""
        row = self.only_writer(temporary)
        while row is not None and row[0] == "copy":
            temporary = row[2]
            row = self.only_writer(temporary)
        return temporary

    def number(self, temporary):
        """Return the number that a temporary is, or None if it is none."""
        row = self.only_writer(self.source(temporary))
        return row[2] if row is not None and row[0] == "num" else None

    def sources_of(self, row):
        """Return the list of the temporaries that a ROW reads, those for which they stand."""
        return [self.source(temporary) for temporary in read_by(row)]

    def stretches(self):
        """Return the stretches as pairs: the number of the first ROW, and that behind the last one."""
        starts = {0: True}
        for at, row in enumerate(self.rows):
            if row is None:
                continue
            if row[0] == "unless" or not goes_on_behind(row):
                starts[at + 1] = True
            if label_of(row) >= 0:
                starts[label_of(row)] = True
        starts[len(self.rows)] = True
        bounds = sorted(list(starts))
        return list(zip(bounds, bounds[1:]))

    def routine(self):
        """Return the routine without the ROWs that are gone; ROWs read what copies copy."""
        places = []
        left = []
        for row in self.rows:
            places.append(len(left))
            if row is not None:
                left.append(with_reads(row, {read: self.source(read) for read in read_by(row)}))
        places.append(len(left))
        rows = [with_label(row, places[label_of(row)]) if label_of(row) >= 0 else row for row in left]
        return (self.name, self.params, self.inner, tuple(rows))
