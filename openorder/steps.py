"""The own steps of nodes, calls excepted: what they read, what they give, what they leave due."""

from openorder.arithmetic import calculated, wrapped
from openorder.shapes import CHOOSING
from openorder.survey import chosen_part


def stepped(running, body, node):
    """Do the own step of a node and return the value that it gives."""
    expression = body.layout.expressions[node]
    parts = body.layout.parts[node]
    word = expression[0]
    if word in CHANGES:
        change = CHANGES[word]
        return change(running, body, node)
    if word in CHOOSING:
        return value_chosen(word, body, parts)
    if word in ("var", "item", "at"):
        return running.read(place_of(running, body, expression, parts))
    given = [body.worked[part] for part in parts]
    if word == "print":
        running.say(given[0])
        return given[0]
    return value_of_parts(expression, given)


def value_of_parts(expression, given):
    """Return what a refitem, a neg, a not or an op gives."""
    word = expression[0]
    if word == "refitem":
        return (expression[1], given[0])
    if word == "neg":
        return wrapped(-given[0])
    if word == "not":
        return 1 if given[0] == 0 else 0
    return calculated(expression[1], given[0], given[1])


def value_chosen(word, body, parts):
    """Return what an and, or, cond or comma gives."""
    chosen = chosen_part(word, body.worked[parts[0]], parts)
    if chosen is None:
        return 1 if word == "or" else 0
    value = body.worked[chosen]
    if word in ("and", "or"):
        return 1 if value != 0 else 0
    return value


def place_of(running, body, place, parts):
    """Return the PLACE that an lv, or a node that only reads, leads to."""
    if place[0] == "var":
        return running.place_named(place[1])
    leading = body.worked[parts[0]]
    if place[0] == "item":
        return ("global", place[1], leading)
    return ("global", leading[0], leading[1])


def step_of_set(running, body, node):
    """Take the place and give the value, which the write stores."""
    parts = body.layout.parts[node]
    place = place_of(running, body, body.layout.expressions[node][1], parts)
    value = body.worked[parts[-1]]
    body.due[node] = (place, value)
    return value


def step_of_add(running, body, node):
    """Read the place and give the sum, which the write stores."""
    parts = body.layout.parts[node]
    place = place_of(running, body, body.layout.expressions[node][1], parts)
    value = wrapped(running.read(place) + body.worked[parts[-1]])
    body.due[node] = (place, value)
    return value


def step_of_inc(running, body, node):
    """Read the place and give what it reads; the write stores 1 more."""
    parts = body.layout.parts[node]
    place = place_of(running, body, body.layout.expressions[node][1], parts)
    value = running.read(place)
    body.due[node] = (place, wrapped(value + 1))
    return value


CHANGES = {"set": step_of_set, "add": step_of_add, "inc": step_of_inc}
