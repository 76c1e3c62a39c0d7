"""The cells of the globals, in lists by names."""


def cells_at_first(entries):
    """Return a dict of the lists of the cells of the globals at the beginning."""
    cells = {}
    for entry in entries:
        if entry[0] == "array":
            cells[entry[1]] = [0] * entry[2]
        elif entry[0] == "int":
            cells[entry[1]] = [entry[2]]
        else:
            cells[entry[1]] = [(entry[2], entry[3])]
    return cells


def values_told(entries, cells):
    """Return the tuple of the values of the globals, of an array the tuple of its cells."""
    told = []
    for entry in entries:
        values = cells[entry[1]]
        told.append(tuple(values) if entry[0] == "array" else values[0])
    return tuple(told)
