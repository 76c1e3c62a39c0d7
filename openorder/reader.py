"""Texts read as programs and functions, and written."""

from openorder.phrases import SINGLE, WHOLE, Phrase
from openorder.tuples import tuples_of
from openorder.words import Cursor
from openorder.writer import lines_of_function, text_of_global


def read(text):
    """Return the PROGRAM with this text; raise BadText(at) if there is none."""
    cursor = Cursor(text)
    entries = []
    while cursor.sign() in ("int", "ref"):
        entries.append(read_global(cursor))
    functions = [read_function(cursor)]
    while cursor.sign() != "end":
        functions.append(read_function(cursor))
    return (tuple(entries), tuple(functions))


def function_in(text):
    """Return the function with this text; raise BadText(at) if there is none."""
    cursor = Cursor(text)
    function = read_function(cursor)
    cursor.want("end")
    return function


def program_text(program):
    """Return the text of a program, with brackets only where the grammar needs them."""
    entries, functions = tuples_of(program)
    arrays = [entry[1] for entry in entries if entry[0] == "array"]
    lines = [text_of_global(entry, arrays) for entry in entries]
    for function in functions:
        lines.extend(lines_of_function(function))
    return "\n".join(lines)


def read_global(cursor):
    """Read a global with the ; behind it."""
    kind = cursor.step()
    name = cursor.want("name")
    if kind == "ref":
        entry = ("ref", name) + read_target(cursor)
    elif cursor.passes("["):
        entry = ("array", name, int(cursor.want("number")))
        cursor.want("]")
    else:
        cursor.want("=")
        entry = ("int", name, read_value(cursor))
    cursor.want(";")
    return entry


def read_target(cursor):
    """Read the reference that a global ref has at first, with the = in front."""
    cursor.want("=")
    cursor.want("&")
    target = cursor.want("name")
    index = 0
    if cursor.passes("["):
        index = int(cursor.want("number"))
        cursor.want("]")
    return (target, index)


def read_value(cursor):
    """Read the value of a global int; only behind a - is there one number more."""
    if not cursor.passes("-"):
        return int(cursor.want("number"))
    if cursor.sign() == "edge":
        return -int(cursor.step())
    return -int(cursor.want("number"))


def read_function(cursor):
    """Read a function, from its fun to its last }."""
    cursor.want("fun")
    name = cursor.want("name")
    cursor.want("(")
    params = read_params(cursor)
    return (name, params, read_body(cursor))


def read_params(cursor):
    """Read the params with the ) behind them."""
    if cursor.passes(")"):
        return ()
    params = [read_param(cursor)]
    while cursor.passes(","):
        params.append(read_param(cursor))
    cursor.want(")")
    return tuple(params)


def read_param(cursor):
    """Read one param."""
    if cursor.sign() not in ("int", "ref"):
        cursor.refuse()
    kind = cursor.step()
    return (kind, cursor.want("name"))


def read_body(cursor):
    """Read the statements between a { and its }."""
    cursor.want("{")
    body = []
    while not cursor.passes("}"):
        body.append(read_statement(cursor))
    return tuple(body)


def read_statement(cursor):
    """Read one statement."""
    sign = cursor.sign()
    if sign == "if" or sign == "while":
        return read_branch(cursor)
    if sign == "int" or sign == "ref":
        kind = cursor.step()
        name = cursor.want("name")
        cursor.want("=")
        return ("let", kind, name, read_expression(cursor, ";", SINGLE))
    if cursor.passes("return"):
        return ("return", read_expression(cursor, ";", WHOLE))
    return ("do", read_expression(cursor, ";", WHOLE))


def read_branch(cursor):
    """Read an if or a while."""
    word = cursor.step()
    cursor.want("(")
    condition = read_expression(cursor, ")", WHOLE)
    body = read_body(cursor)
    if word == "while":
        return ("while", condition, body)
    other = read_body(cursor) if cursor.passes("else") else ()
    return ("if", condition, body, other)


def read_expression(cursor, closer, head):
    """Read an expression with the word that closes it behind it."""
    expression = Phrase(cursor, closer, head).read()
    cursor.want(closer)
    return expression
