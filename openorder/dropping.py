"""The pass "drop": what nobody reads."""

from openorder.rows import written_by


def drop(draft, facts):
    """Let ROWs go that work out what is not read, or write what is written over, until none is left."""
    is_changed = True
    while is_changed:
        is_changed = drop_unused(draft, facts)
        if drop_overwritten(draft, facts):
            is_changed = True


def drop_unused(draft, facts):
    """Let the ROWs go whose temporary or variable nobody reads; tell whether there were any."""
    reads = {}
    for row in draft.rows:
        if row is not None:
            count_reads(draft, row, reads, 1)
    is_changed = False
    for at in range(len(draft.rows) - 1, -1, -1):
        row = draft.rows[at]
        if row is not None and is_unused(draft, facts, row, reads):
            count_reads(draft, row, reads, -1)
            draft.drop(at, "unused")
            is_changed = True
    return is_changed


def count_reads(draft, row, reads, many):
    """Add to the numbers of the ROWs that read each temporary, and each variable by its name."""
    for temporary in draft.sources_of(row):
        reads[temporary] = reads.get(temporary, 0) + many
    if row[0] == "get":
        reads[row[2]] = reads.get(row[2], 0) + many


def is_unused(draft, facts, row, reads):
    """Tell whether nobody reads what a ROW gives or puts, and nothing else is lost with it."""
    if row[0] == "put":
        return row[1] not in facts.variables and reads.get(row[1], 0) == 0
    return written_by(row) >= 0 and reads.get(row[1], 0) == 0 and facts.cannot_stop(draft, row)


def drop_overwritten(draft, facts):
    """Let the puts go that a later one of their stretch makes void; tell whether there were any."""
    is_changed = False
    for start, stop in draft.stretches():
        for at in range(start, stop):
            row = draft.rows[at]
            if row is not None and row[0] == "put" and is_overwritten(draft, facts, at, stop):
                draft.drop(at, "overwritten")
                is_changed = True
    return is_changed


def is_overwritten(draft, facts, at, stop):
    """Tell whether a later put in a stretch is to the same variable, and nothing between may read it."""
    name = draft.rows[at][1]
    for later in range(at + 1, stop):
        row = draft.rows[later]
        if row is None:
            continue
        if row[0] == "put" and row[1] == name:
            return True
        if may_read(draft, facts, row, name):
            return False
    return False


def may_read(draft, facts, row, name):
    """Tell whether a ROW may read a variable."""
    place = facts.place(draft, row)
    if place != () and place[0] == "cell" and place[1] != name:
        return False
    return name in facts.names(row, "read")
