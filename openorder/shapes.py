"""What the tuples of expressions are made of."""

WITHOUT_PARTS = ("num", "var", "ref")
MARKABLE = (
    "item", "refitem", "at", "neg", "not", "print", "op", "set", "add", "inc", "call",
)
CHOOSING = ("and", "or", "cond", "comma")
WRITING = ("set", "add", "inc")


def parts_of(expression):
    """Return the tuple of the parts of an expression."""
    word = expression[0]
    if word in WITHOUT_PARTS:
        return ()
    if word in ("at", "neg", "not", "print"):
        return (expression[1],)
    if word in CHOOSING:
        return tuple(expression[1:])
    if word == "call":
        return expression[2]
    if word == "op":
        return (expression[2], expression[3])
    if word in ("item", "refitem"):
        return (expression[2],)
    if word == "inc":
        return parts_of_place(expression[1])
    return parts_of_place(expression[1]) + (expression[2],)


def parts_of_place(place):
    """Return the tuple of the parts of an lv."""
    if place[0] == "var":
        return ()
    return (place[2],) if place[0] == "item" else (place[1],)


def is_marked(expression):
    """Tell whether an expression is a marked one."""
    return expression[0] in MARKABLE and expression[-1] == 1


def own_kind(expression):
    """Return the kind of the turn that is a node's own step, or "" if it has none."""
    if expression[0] in ("num", "ref"):
        return ""
    return "call" if expression[0] == "call" else "step"


def array_in(expression):
    """Return the name of the array of which a node needs an item, or "" if it needs none."""
    if expression[0] in WRITING:
        expression = expression[1]
    return expression[1] if expression[0] in ("item", "refitem") else ""
