"""Which temporaries of a routine hold a value that is still to be read."""

from openorder.masks import places_in
from openorder.rows import goes_on_behind, label_of, read_by, written_by


def live_behind(rows):
    """Return, for each ROW, the mask of the temporaries that may be read behind it before they are written.

    A mask is an integer that has a one at the place of each temporary.
    """
    ahead = [0] * (len(rows) + 1)
    behind = [0] * len(rows)
    is_changed = True
    while is_changed:
        is_changed = False
        for at in range(len(rows) - 1, -1, -1):
            row = rows[at]
            mask = ahead[at + 1] if goes_on_behind(row) else 0
            if label_of(row) >= 0:
                mask |= ahead[label_of(row)]
            behind[at] = mask
            if written_by(row) >= 0:
                mask &= ~(1 << written_by(row))
            for temporary in read_by(row):
                mask |= 1 << temporary
            if mask != ahead[at]:
                ahead[at] = mask
                is_changed = True
    return behind


def neighbours_in(rows):
    """Return, for each temporary that is written, the mask of those that need another register.

    One that is written must not take the register of one that is read behind that.
    """
    masks = {}
    for row, mask in zip(rows, live_behind(rows)):
        written = written_by(row)
        if written >= 0:
            masks[written] = masks.get(written, 0) | mask & ~(1 << written)
    both = dict(masks)
    for written in masks:
        for other in places_in(masks[written]):
            both[other] |= 1 << written
    return both
