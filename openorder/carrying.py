"""The pass "carry": what an earlier ROW of the same stretch read or wrote."""

from openorder.facts import READING, is_accessing, item_of


def carry(draft, facts):
    """Make copies of the ROWs that read what is known from an earlier one of their stretch."""
    for start, stop in draft.stretches():
        stretch = Stretch(draft, facts, start, stop)
        for at in range(start, stop):
            row = draft.rows[at]
            if row is not None and row[0] in READING:
                stretch.carry_row(at)


class Stretch:
    """The ROWs of a stretch that access places.

    rounds tells the evaluations of full expressions apart to which they belong: in one, ITEMs come
    from left to right. (Behind other passes the condition of a loop may stand twice in a stretch.)
    """

    def __init__(self, draft, facts, start, stop):
        self.draft = draft
        self.facts = facts
        self.start = start
        self.rounds = {}
        many = 0
        last = (-1, (-1, ""))
        for at in range(start, stop):
            row = draft.rows[at]
            if row is None or not is_accessing(row):
                continue
            here = (facts.top_of(row), item_of(row))
            if here[0] != last[0] or here[1] <= last[1]:
                many += 1
            self.rounds[at] = many
            last = here

    def carry_row(self, at):
        """Make a copy of a ROW, if the last one ahead that accesses the same place tells its value."""
        place = self.facts.place(self.draft, self.draft.rows[at])
        between = []
        for earlier in range(at - 1, self.start - 1, -1):
            row = self.draft.rows[earlier]
            if row is None or not is_accessing(row):
                continue
            if self.facts.place(self.draft, row) == place:
                self.carry_from(earlier, at, place, between)
                return
            between.append(earlier)

    def carry_from(self, earlier, at, place, between):
        """Make a copy of a ROW of what an earlier one accessed, if nothing between stands against it."""
        one, other = self.draft.rows[earlier], self.draft.rows[at]
        names = self.names_of(place, one, other)
        what = "carried"
        for middle in between:
            if not self.may_write(middle, place, names):
                continue
            if not self.are_unsequenced(middle, earlier) and not self.are_unsequenced(middle, at):
                return
            what = "trusted"
        value = one[1] if one[0] in READING else one[-2]
        self.draft.change(at, ("copy", other[1], value, other[-1]), what)

    def names_of(self, place, one, other):
        """Return the dict of the names that a place may have to which two ROWs lead."""
        if place[0] != "at":
            return {place[1]: True}
        known = dict(self.facts.names(one, "read"))
        known.update(self.facts.names(one, "write"))
        return {name: True for name in self.facts.names(other, "read") if name in known}

    def may_write(self, at, place, names):
        """Tell whether a ROW may write a place, which it does not name by the same words."""
        row = self.draft.rows[at]
        written = self.facts.names(row, "write")
        cell = self.facts.place(self.draft, row)
        if len(written) > 0 and cell != () and cell[0] == "cell":
            return place[0] != "cell" and cell[1] in names
        return any([name in names for name in written])

    def are_unsequenced(self, one, other):
        """Tell whether two ROWs are unsequenced in one evaluation."""
        if self.rounds[one] != self.rounds[other]:
            return False
        return self.facts.are_unsequenced(self.draft.rows[one], self.draft.rows[other])
