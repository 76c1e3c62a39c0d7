"""The programs of the examples in the document."""

from openorder.reader import read

DEMO = read("int x = 1;\nfun f(int n) {\n  x = x + n;\n  return x;\n}\n"
            "fun main(int k) {\n  return f(k) + x++;\n}")
CALM = read("int x = 0; int y = 0; fun main(int k) { x = (y = k) + 2; print(x + y); }")
CLASH = read("int x = 1; fun main(int k) { print(x + (x = k)); }")
TWO = read("int x = 0; fun main() { print(x++ + x); }")
PAIR = read("int x = 0; int y = 0; fun main() { y = x++; }")
CALLS = read("int x = 0; fun f(int n) { x = n; return n; } fun main() { print(f(1) + f(2)); }")
TWICE = read("int x = 3; int y = 0; ref p = &x; "
             "fun main(int k) { p = k ? &x : &y; print(*p + (y = k) + *p); }")
ALL = (DEMO, CALM, CLASH, TWO, PAIR, CALLS, TWICE)


def expression_of(text):
    """Return the expression that is the statement with this text."""
    return read("fun main() { " + text + "; }")[1][0][2][0][1]


def listed(value):
    """Return the value with lists in the place of tuples, at any depth."""
    if isinstance(value, (list, tuple)):
        return [listed(part) for part in value]
    return value


def only_tuples(value):
    """Tell whether there is no list in the value, at any depth."""
    if isinstance(value, list):
        return False
    return not isinstance(value, tuple) or all(only_tuples(part) for part in value)
