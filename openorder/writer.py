"""Globals, functions and expressions written as texts."""

from openorder.levels import ASSIGNMENT, BINARY, CHOICE, CLOSEST, COMMA, PREFIX

SIGNS = {
    "neg": "-", "not": "!", "at": "*", "or": "||", "and": "&&", "set": "=", "add": "+=",
}


def text_of_global(entry, arrays):
    """Return the line of a global; arrays are the names of the arrays of the program."""
    kind, name, third = entry[0], entry[1], entry[2]
    if kind == "int":
        return f"int {name} = {third};"
    if kind == "array":
        return f"int {name}[{third}];"
    if entry[3] == 0 and third not in arrays:
        return f"ref {name} = &{third};"
    return f"ref {name} = &{third}[{entry[3]}];"


def lines_of_function(function):
    """Return the lines of a function."""
    name, params, body = function
    listed = ", ".join([f"{kind} {param}" for kind, param in params])
    return [f"fun {name}({listed}) " + "{"] + lines_of_body(body, "  ") + ["}"]


def lines_of_body(body, margin):
    """Return the lines of the statements of a body, each with this margin."""
    lines = []
    for statement in body:
        lines.extend(lines_of_statement(statement, margin))
    return lines


def lines_of_statement(statement, margin):
    """Return the lines of one statement."""
    word = statement[0]
    if word == "if" or word == "while":
        return lines_of_branch(statement, margin)
    if word == "let":
        value = text_at(statement[3], ASSIGNMENT)
        return [f"{margin}{statement[1]} {statement[2]} = {value};"]
    front = "return " if word == "return" else ""
    return [f"{margin}{front}{text_at(statement[1], COMMA)};"]


def lines_of_branch(statement, margin):
    """Return the lines of an if or a while; an empty second body has none."""
    inner = margin + "  "
    lines = [f"{margin}{statement[0]} ({text_at(statement[1], COMMA)}) " + "{"]
    lines.extend(lines_of_body(statement[2], inner))
    if statement[0] == "if" and len(statement[3]) > 0:
        lines.append(margin + "} else {")
        lines.extend(lines_of_body(statement[3], inner))
    lines.append(margin + "}")
    return lines


def text_at(expression, least):
    """Return the text of an expression, in brackets if it binds less closely than least."""
    text = text_of(expression)
    return text if level_of(expression) >= least else f"({text})"


def level_of(expression):
    """Return how closely an expression binds."""
    word = expression[0]
    if word == "op":
        return BINARY[expression[1]]
    if word in ("and", "or"):
        return BINARY[SIGNS[word]]
    if word in ("neg", "not", "at", "ref", "refitem"):
        return PREFIX
    if word in ("set", "add"):
        return ASSIGNMENT
    if word == "cond":
        return CHOICE
    return COMMA if word == "comma" else CLOSEST


def text_of(expression):
    """Return the text of an expression without brackets around it."""
    writer = WRITERS[expression[0]]
    return writer(expression)


def mark_text(mark):
    """Return what is written for a mark."""
    return "#" if mark == 1 else ""


def number_text(expression):
    """Return the text of a number."""
    return str(expression[1])


def variable_text(expression):
    """Return the text of a variable."""
    return expression[1]


def reference_text(expression):
    """Return the text of &x."""
    return f"&{expression[1]}"


def item_text(expression):
    """Return the text of a[e]."""
    _, name, index, mark = expression
    return f"{name}[{mark_text(mark)}{text_at(index, COMMA)}]"


def item_reference_text(expression):
    """Return the text of &a[e]."""
    return "&" + item_text(expression)


def prefix_text(expression):
    """Return the text of *e, -e or !e."""
    word, part, mark = expression
    return SIGNS[word] + mark_text(mark) + text_at(part, PREFIX)


def print_text(expression):
    """Return the text of print(e)."""
    _, part, mark = expression
    return f"print{mark_text(mark)}({text_at(part, ASSIGNMENT)})"


def operation_text(expression):
    """Return the text of an operation; operators group to the left."""
    _, sign, left, right, mark = expression
    level = BINARY[sign]
    return f"{text_at(left, level)} {sign}{mark_text(mark)} {text_at(right, level + 1)}"


def logic_text(expression):
    """Return the text of e && e or e || e."""
    word, left, right = expression
    sign = SIGNS[word]
    level = BINARY[sign]
    return f"{text_at(left, level)} {sign} {text_at(right, level + 1)}"


def comma_text(expression):
    """Return the text of e, e."""
    return f"{text_at(expression[1], COMMA)}, {text_at(expression[2], ASSIGNMENT)}"


def choice_text(expression):
    """Return the text of e ? e : e, which groups to the right."""
    _, condition, one, other = expression
    return f"{text_at(condition, CHOICE + 1)} ? {text_at(one, COMMA)} : {text_at(other, CHOICE)}"


def assignment_text(expression):
    """Return the text of lv = e or lv += e, which group to the right."""
    word, place, value, mark = expression
    return f"{text_of(place)} {SIGNS[word]}{mark_text(mark)} {text_at(value, ASSIGNMENT)}"


def increment_text(expression):
    """Return the text of lv++; a *e stands in brackets in front of it."""
    _, place, mark = expression
    return f"{text_at(place, CLOSEST)}++{mark_text(mark)}"


def call_text(expression):
    """Return the text of a call."""
    _, name, given, mark = expression
    listed = ", ".join([text_at(part, ASSIGNMENT) for part in given])
    return f"{name}{mark_text(mark)}({listed})"


WRITERS = {
    "num": number_text, "var": variable_text, "ref": reference_text, "item": item_text,
    "refitem": item_reference_text, "at": prefix_text, "neg": prefix_text, "not": prefix_text,
    "print": print_text, "op": operation_text, "and": logic_text, "or": logic_text,
    "comma": comma_text, "cond": choice_text, "set": assignment_text, "add": assignment_text,
    "inc": increment_text, "call": call_text,
}
