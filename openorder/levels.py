"""How closely the signs of the grammar bind, and the words for them in expressions."""

COMMA = 0
ASSIGNMENT = 1
CHOICE = 2
PREFIX = 9
CLOSEST = 10
BINARY = {
    "||": 3, "&&": 4, "==": 5, "<": 6, "+": 7, "-": 7, "*": 8, "/": 8, "~": 8,
}
LOGIC = {"||": "or", "&&": "and"}
ASSIGNMENTS = {"=": "set", "+=": "add"}
PREFIXES = {"-": "neg", "!": "not", "*": "at"}
