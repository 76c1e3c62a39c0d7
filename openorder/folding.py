"""The pass "fold": what is known beforehand, and what is never reached."""

from openorder.arithmetic import calculated, wrapped
from openorder.rows import goes_on_behind, label_of


def fold(draft):
    """Work out what is made of numbers, and let ROWs go that are not reached, until nothing is left."""
    is_changed = True
    while is_changed:
        is_changed = drop_unreached(draft)
        for at, row in enumerate(list(draft.rows)):
            if row is not None and fold_row(draft, at, row):
                is_changed = True


def drop_unreached(draft):
    """Let the ROWs go to which no way leads from the first one; tell whether there were any."""
    reached = {}
    ways = [0]
    while len(ways) > 0:
        at = ways.pop()
        if at in reached or at == len(draft.rows):
            continue
        reached[at] = True
        row = draft.rows[at]
        if row is None or goes_on_behind(row):
            ways.append(at + 1)
        if row is not None and label_of(row) >= 0:
            ways.append(label_of(row))
    found = [at for at, row in enumerate(draft.rows) if row is not None and at not in reached]
    for at in found:
        draft.drop(at, "unreached")
    return len(found) > 0


def fold_row(draft, at, row):
    """Fold a ROW, if it is one of numbers; tell whether it is."""
    if row[0] == "unless":
        return fold_unless(draft, at, row)
    value = value_of(draft, row)
    if value is None:
        return False
    draft.change(at, ("num", row[1], value, row[-1]), "known")
    return True


def fold_unless(draft, at, row):
    """Make a jump of an unless, or let it go, if what it looks at is a number."""
    number = draft.number(row[1])
    if number is None:
        return False
    if number == 0:
        draft.change(at, ("jump", row[2], row[-1]), "known")
    else:
        draft.drop(at, "known")
    return True


def value_of(draft, row):
    """Return what an op, neg, not or copy of numbers gives; None for anything else."""
    if row[0] not in ("op", "neg", "not", "copy"):
        return None
    numbers = [draft.number(temporary) for temporary in draft.sources_of(row)]
    if None in numbers:
        return None
    if row[0] == "op":
        if row[2] in ("/", "~") and numbers[1] == 0:
            return None
        return calculated(row[2], numbers[0], numbers[1])
    if row[0] == "neg":
        return wrapped(-numbers[0])
    if row[0] == "not":
        return 1 if numbers[0] == 0 else 0
    return numbers[0]
