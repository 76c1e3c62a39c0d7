"""What the ROWs of code are made of: which temporaries they read and write, where they go on.

A ROW that writes a temporary has it at place 1; the last item of each is the node it comes from.
"""

READ_PLACES = {
    "num": (), "ref": (), "copy": (2,), "get": (), "geti": (3,), "getat": (2,), "refi": (3,),
    "put": (2,), "puti": (2, 3), "putat": (1, 2), "op": (3, 4), "neg": (2,), "not": (2,),
    "unless": (1,), "jump": (), "arg": (1,), "call": (), "print": (1,), "return": (1,),
    "spill": (2,), "fill": (),
}
GIVING = (
    "num", "ref", "copy", "get", "geti", "getat", "refi", "op", "neg", "not", "call", "fill",
)
LABEL_PLACES = {"unless": 2, "jump": 1}
SLOT_PLACES = {"spill": 1, "fill": 2}


def read_by(row):
    """Return the list of the temporaries that a ROW reads."""
    return [row[place] for place in READ_PLACES[row[0]]]


def written_by(row):
    """Return the temporary that a ROW writes, or -1 if it writes none."""
    return row[1] if row[0] in GIVING else -1


def with_item(row, place, item):
    """Return a ROW with another item at a place."""
    return row[:place] + (item,) + row[place + 1:]


def with_reads(row, table):
    """Return a ROW that reads, in the place of the temporaries in a table, those that it has for them."""
    for place in READ_PLACES[row[0]]:
        if row[place] in table:
            row = with_item(row, place, table[row[place]])
    return row


def label_of(row):
    """Return the number of the ROW to which an unless or a jump leads, or -1 for any other ROW."""
    return row[LABEL_PLACES[row[0]]] if row[0] in LABEL_PLACES else -1


def with_label(row, label):
    """Return an unless or a jump that leads to another ROW."""
    return with_item(row, LABEL_PLACES[row[0]], label)


def goes_on_behind(row):
    """Tell whether the ROW behind may be done next."""
    return row[0] not in ("jump", "return")
