"""The own steps of nodes, calls excepted: what they read, what they give, what they leave due."""

from openorder.arithmetic import calculated, wrapped
from openorder.shapes import chosen_part


def place_of(running, body, place, parts):
    """Return the PLACE that an lv, or a node that only reads, leads to."""
    word = place[0]
    if word == "var":
        name = place[1]
        return ("global", name, 0) if name in running.cells else ("local", body.number, name)
    leading = body.worked[parts[0]]
    if word == "item":
        return ("global", place[1], leading)
    return ("global", leading[0], leading[1])


def step_of_var(running, body, node, expression):
    """Read a variable."""
    name = expression[1]
    return body.variables[name] if name in body.variables else running.cells[name][0]


def step_of_item(running, body, node, expression):
    """Read an item."""
    return running.cells[expression[1]][body.worked[body.layout.parts[node][0]]]


def step_of_at(running, body, node, expression):
    """Read what a reference leads to."""
    name, index = body.worked[body.layout.parts[node][0]]
    return running.cells[name][index]


def step_of_refitem(running, body, node, expression):
    """Give the reference to an item."""
    return (expression[1], body.worked[body.layout.parts[node][0]])


def step_of_neg(running, body, node, expression):
    """Give the negative."""
    return wrapped(-body.worked[body.layout.parts[node][0]])


def step_of_not(running, body, node, expression):
    """Give 1 for 0, otherwise 0."""
    return 1 if body.worked[body.layout.parts[node][0]] == 0 else 0


def step_of_op(running, body, node, expression):
    """Give what the operation gives."""
    left, right = body.layout.parts[node]
    return calculated(expression[1], body.worked[left], body.worked[right])


def step_of_print(running, body, node, expression):
    """Put the value behind the output and give it."""
    value = body.worked[body.layout.parts[node][0]]
    running.output.append(value)
    return value


def step_of_chosen(running, body, node, expression):
    """Give what an and, or, cond or comma gives."""
    word = expression[0]
    parts = body.layout.parts[node]
    chosen = chosen_part(word, body.worked[parts[0]], parts)
    if chosen is None:
        return 1 if word == "or" else 0
    value = body.worked[chosen]
    if word in ("and", "or"):
        return 1 if value != 0 else 0
    return value


def step_of_set(running, body, node, expression):
    """Take the place and give the value, which the write stores."""
    parts = body.layout.parts[node]
    value = body.worked[parts[-1]]
    body.due[node] = (place_of(running, body, expression[1], parts), value)
    return value


def step_of_add(running, body, node, expression):
    """Read the place and give the sum, which the write stores."""
    parts = body.layout.parts[node]
    place = place_of(running, body, expression[1], parts)
    old = running.cells[place[1]][place[2]] if place[0] == "global" else body.variables[place[2]]
    value = wrapped(old + body.worked[parts[-1]])
    body.due[node] = (place, value)
    return value


def step_of_inc(running, body, node, expression):
    """Read the place and give what it reads; the write stores 1 more."""
    place = place_of(running, body, expression[1], body.layout.parts[node])
    value = running.cells[place[1]][place[2]] if place[0] == "global" else body.variables[place[2]]
    body.due[node] = (place, wrapped(value + 1))
    return value


STEPS = {
    "var": step_of_var, "item": step_of_item, "at": step_of_at, "refitem": step_of_refitem,
    "neg": step_of_neg, "not": step_of_not, "op": step_of_op, "print": step_of_print,
    "and": step_of_chosen, "or": step_of_chosen, "cond": step_of_chosen, "comma": step_of_chosen,
    "set": step_of_set, "add": step_of_add, "inc": step_of_inc,
}
