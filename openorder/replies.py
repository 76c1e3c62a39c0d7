"""Answers of a desk, written."""


def listed_reply(values):
    """Return a list written with blanks between, - if it is empty."""
    return " ".join([str(value) for value in values]) if len(values) > 0 else "-"


def result_reply(program, result):
    """Return a RESULT written: END, output and values."""
    end, output, values = result
    arrays = arrays_of(program)
    told = []
    for entry, value in zip(program[0], values):
        told.append(f"{entry[1]} {value_reply(arrays, entry[0], value)}")
    globals_reply = ", ".join(told) if len(told) > 0 else "-"
    return f"{end_reply(end)} | {listed_reply(output)} | {globals_reply}"


def end_reply(end):
    """Return an END written."""
    if end[0] == "stuck":
        return "stuck " + ", ".join([listed_reply(pair) for pair in end[1]])
    return listed_reply(end)


def value_reply(arrays, kind, value):
    """Return the value of a global of some kind written."""
    if kind == "array":
        return listed_reply(value)
    return "&" + cell_reply(arrays, value[0], value[1]) if kind == "ref" else str(value)


def arrays_of(program):
    """Return the list of the names of the arrays of a program."""
    return [entry[1] for entry in program[0] if entry[0] == "array"]


def cell_reply(arrays, name, index):
    """Return a cell written: x, or a[2]."""
    return f"{name}[{index}]" if name in arrays else name


def place_reply(arrays, place):
    """Return a PLACE written."""
    if place[0] == "global":
        return cell_reply(arrays, place[1], place[2])
    return f"{place[1]}.{place[2]}" if place[0] == "local" else "output"


def access_reply(access):
    """Return an access written: its way with > between, and its word."""
    way, word = access
    return ">".join([str(node) for node in way]) + " " + word


def conflict_reply(program, conflict):
    """Return a CONFLICT written, - for none."""
    if conflict is None:
        return "-"
    place, one, other = conflict
    return f"{place_reply(arrays_of(program), place)}: {access_reply(one)}, {access_reply(other)}"


def refused_reply(pair):
    """Return a refused pair written, yes for none."""
    if pair is None:
        return "yes"
    one, other, name = pair
    front = name if name != "" else "output"
    return f"{front}: {listed_reply(one)}, {listed_reply(other)}"
