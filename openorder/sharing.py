"""The pass "share": what was worked out before in the same stretch."""

from openorder.rows import with_reads, read_by

SHARED = ("op", "neg", "not", "num", "ref", "refi")


def share(draft):
    """Make copies of the ROWs that are like an earlier one of their stretch."""
    for start, stop in draft.stretches():
        first = {}
        for at in range(start, stop):
            row = draft.rows[at]
            if row is None or row[0] not in SHARED:
                continue
            likeness = likeness_of(draft, row)
            if likeness in first:
                draft.change(at, ("copy", row[1], first[likeness], row[-1]), "shared")
            else:
                first[likeness] = row[1]


def likeness_of(draft, row):
    """Return what like ROWs have in common: all but the temporary that they write and their node."""
    row = with_reads(row, {read: draft.source(read) for read in read_by(row)})
    return (row[0],) + row[2:-1]
