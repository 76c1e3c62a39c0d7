"""What the tuples of expressions and statements are made of."""

PART_PLACES = {
    "num": (), "var": (), "ref": (),
    "at": (1,), "neg": (1,), "not": (1,), "print": (1,),
    "item": (2,), "refitem": (2,), "op": (2, 3),
    "and": (1, 2), "or": (1, 2), "comma": (1, 2), "cond": (1, 2, 3),
}
# Dicts, since they are asked again and again.
MARKABLE = {
    "item": True, "refitem": True, "at": True, "neg": True, "not": True, "print": True, "op": True,
    "set": True, "add": True, "inc": True, "call": True,
}
CHOOSING = {"and": True, "or": True, "cond": True, "comma": True}
WRITING = {"set": True, "add": True, "inc": True}
DIVIDING = {"/": True, "~": True}


def parts_of(expression):
    """Return the tuple of the parts of an expression."""
    word = expression[0]
    if word in PART_PLACES:
        places = PART_PLACES[word]
        if len(places) == 0:
            return ()
        if len(places) == 1:
            return (expression[places[0]],)
        return tuple([expression[place] for place in places])
    if word == "call":
        return tuple(expression[2])
    if word == "inc":
        return parts_of_place(expression[1])
    return parts_of_place(expression[1]) + (expression[2],)


def parts_of_place(place):
    """Return the tuple of the parts of an lv."""
    if place[0] == "var":
        return ()
    return (place[2],) if place[0] == "item" else (place[1],)


def is_marked(expression):
    """Tell whether an expression is a marked one."""
    return expression[0] in MARKABLE and expression[-1] == 1


def own_kind(expression):
    """Return the kind of the turn that is a node's own step, or "" if it has none."""
    if expression[0] in ("num", "ref"):
        return ""
    return "call" if expression[0] == "call" else "step"


def array_in(expression):
    """Return the name of the array of which a node needs an item, or "" if it needs none."""
    if expression[0] in WRITING:
        expression = expression[1]
    return expression[1] if expression[0] in ("item", "refitem") else ""


def may_block(expression):
    """Tell whether the own step of a node may block."""
    if expression[0] == "op":
        return expression[1] in DIVIDING
    return expression[0] == "call" or array_in(expression) != ""


def chosen_part(word, first, parts):
    """Return the part that begins behind the first one, whose value is first; None if none does."""
    if word == "comma":
        return parts[1]
    if word == "cond":
        return parts[1] if first != 0 else parts[2]
    if word == "and":
        return parts[1] if first != 0 else None
    return parts[1] if first == 0 else None


def declared_in(body):
    """Return the list of the pairs (kind, name) of the locals of a body, inner ones too, in their order."""
    found = []
    for statement in body:
        if statement[0] == "let":
            found.append((statement[1], statement[2]))
        elif statement[0] in ("if", "while"):
            for inner in statement[2:]:
                found.extend(declared_in(inner))
    return found
