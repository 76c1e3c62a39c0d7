"""The ROWs of a function, written from its expressions."""

from openorder.rows import with_label


class Coder:
    """Writes the ROWs of one function.

    store gives the temporaries; ways has (first, "keep" or "spill") of the pair nodes that are not
    worked out from left to right with the first value kept. leads has, for each ROW that goes on at
    a row of the layout, this row.
    """

    def __init__(self, layout, store, ways):
        self.layout = layout
        self.store = store
        self.ways = ways
        self.rows = []
        self.leads = {}
        self.slots_held = 0

    def write_function(self, name):
        """Return the tuple of the ROWs of a function."""
        starts = []
        for at, row in enumerate(self.layout.rows[name]):
            starts.append(len(self.rows))
            self.write_row(at, row)
        starts.append(len(self.rows))
        for at in self.leads:
            self.rows[at] = with_label(self.rows[at], starts[self.leads[at]])
        return tuple(self.rows)

    def write_row(self, at, row):
        """Write a row of the layout."""
        word, node = row[0], row[1]
        if word == "jump":
            if row[2] != at + 1:
                self.leads[len(self.rows)] = row[2]
                self.rows.append(("jump", row[2], node))
            return
        value = self.value(node)
        self.store.leave(value)
        if word == "unless":
            self.leads[len(self.rows)] = row[2]
            self.rows.append(("unless", value, row[2], node))
        elif word == "return":
            self.rows.append(("return", value, node))

    def value(self, node):
        """Write what works a node out, whole; return the temporary in use that has its value."""
        expression = self.layout.expressions[node]
        writer = WRITERS[expression[0]]
        return writer(self, node, expression)

    def given(self, word, items, node, used):
        """Write a ROW that gives a value, and return its temporary; those used end with it."""
        for temporary in used:
            self.store.leave(temporary)
        temporary = self.store.take()
        self.rows.append((word, temporary) + items + (node,))
        return temporary

    def both(self, node):
        """Work out both parts of a pair node; return their temporaries from left to right."""
        parts = self.layout.parts[node]
        first, way = self.ways.get(node, (0, "keep"))
        held = self.value(parts[first])
        if way == "keep":
            other = self.value(parts[1 - first])
        else:
            slot = self.slots_held
            self.slots_held += 1
            self.rows.append(("spill", slot, held, node))
            self.store.leave(held)
            other = self.value(parts[1 - first])
            held = self.given("fill", (slot,), node, ())
            self.slots_held -= 1
        return (held, other) if first == 0 else (other, held)

    def read_place(self, place, leading, node):
        """Write a ROW that reads the place of an lv, and return its temporary."""
        if place[0] == "var":
            return self.given("get", (place[1],), node, ())
        if place[0] == "item":
            return self.given("geti", (place[1], leading), node, ())
        return self.given("getat", (leading,), node, ())

    def write_place(self, place, leading, value, node):
        """Write a ROW that writes the place of an lv; what led there is no longer in use."""
        if place[0] == "var":
            self.rows.append(("put", place[1], value, node))
            return
        if place[0] == "item":
            self.rows.append(("puti", place[1], leading, value, node))
        else:
            self.rows.append(("putat", leading, value, node))
        self.store.leave(leading)

    def way_out(self, result, value, node):
        """End a way on which a value comes about by copying it, if it is not there already."""
        self.store.leave(value)
        if value != result:
            self.rows.append(("copy", result, value, node))

    def truth_out(self, result, value, node):
        """End a way on which 0 or 1 comes about by telling whether a value is true."""
        opposite = self.given("not", (value,), node, (value,))
        self.store.leave(opposite)
        self.rows.append(("not", result, opposite, node))


def write_number(coder, node, expression):
    """A number."""
    return coder.given("num", (expression[1],), node, ())


def write_reference(coder, node, expression):
    """&x."""
    return coder.given("ref", (expression[1], 0), node, ())


def write_variable(coder, node, expression):
    """A variable."""
    return coder.read_place(expression, -1, node)


def write_item(coder, node, expression):
    """a[e] or &a[e]."""
    index = coder.value(coder.layout.parts[node][0])
    word = "geti" if expression[0] == "item" else "refi"
    return coder.given(word, (expression[1], index), node, (index,))


def write_single(coder, node, expression):
    """*e, -e or !e."""
    part = coder.value(coder.layout.parts[node][0])
    word = "getat" if expression[0] == "at" else expression[0]
    return coder.given(word, (part,), node, (part,))


def write_operation(coder, node, expression):
    """An operation."""
    left, right = coder.both(node)
    return coder.given("op", (expression[1], left, right), node, (left, right))


def write_print(coder, node, expression):
    """print(e)."""
    value = coder.value(coder.layout.parts[node][0])
    coder.rows.append(("print", value, node))
    return value


def write_change(coder, node, expression):
    """lv = e or lv += e."""
    word, place = expression[0], expression[1]
    if place[0] == "var":
        leading, value = -1, coder.value(coder.layout.parts[node][0])
    else:
        leading, value = coder.both(node)
    if word == "add":
        old = coder.read_place(place, leading, node)
        value = coder.given("op", ("+", old, value), node, (old, value))
    coder.write_place(place, leading, value, node)
    return value


def write_increment(coder, node, expression):
    """lv++."""
    place = expression[1]
    leading = -1 if place[0] == "var" else coder.value(coder.layout.parts[node][0])
    old = coder.read_place(place, leading, node)
    one = coder.given("num", (1,), node, ())
    value = coder.given("op", ("+", old, one), node, (one,))
    coder.write_place(place, leading, value, node)
    coder.store.leave(value)
    return old


def write_comma(coder, node, expression):
    """e, e."""
    first, second = coder.layout.parts[node]
    coder.store.leave(coder.value(first))
    return coder.value(second)


def write_choice(coder, node, expression):
    """e && e, e || e or e ? e : e: the result comes on one of two ways."""
    word, parts = expression[0], coder.layout.parts[node]
    condition = coder.value(parts[0])
    coder.store.leave(condition)
    result = coder.store.joint()
    branch = len(coder.rows)
    coder.rows.append(("unless", condition, -1, node))
    if word == "cond":
        coder.way_out(result, coder.value(parts[1]), node)
    elif word == "and":
        coder.truth_out(result, coder.value(parts[1]), node)
    else:
        coder.rows.append(("num", result, 1, node))
    end_of_way = len(coder.rows)
    coder.rows.append(("jump", -1, node))
    coder.rows[branch] = with_label(coder.rows[branch], len(coder.rows))
    if word == "cond":
        coder.way_out(result, coder.value(parts[2]), node)
    elif word == "or":
        coder.truth_out(result, coder.value(parts[1]), node)
    else:
        coder.rows.append(("num", result, 0, node))
    coder.rows[end_of_way] = with_label(coder.rows[end_of_way], len(coder.rows))
    coder.store.hold(result)
    return result


def write_call(coder, node, expression):
    """A call: each argument is put away as soon as it is whole."""
    parts = coder.layout.parts[node]
    for part in parts:
        value = coder.value(part)
        coder.rows.append(("arg", value, node))
        coder.store.leave(value)
    return coder.given("call", (expression[1], len(parts)), node, ())


WRITERS = {
    "num": write_number, "var": write_variable, "ref": write_reference, "item": write_item,
    "refitem": write_item, "at": write_single, "neg": write_single, "not": write_single,
    "print": write_print, "op": write_operation, "and": write_choice, "or": write_choice,
    "comma": write_comma, "cond": write_choice, "set": write_change, "add": write_change,
    "inc": write_increment, "call": write_call,
}
