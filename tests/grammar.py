"""The grammar of the document as it stands there, and a recognizer that knows nothing but it."""

GRAMMAR = """
program: globals functions
globals: | globals global
global: int NAME = NUMBER ; | int NAME = - NUMBER ; | int NAME = - EDGE ; | int NAME [ NUMBER ] ;
global: ref NAME = & NAME ; | ref NAME = & NAME [ NUMBER ] ;
functions: function | functions function
function: fun NAME ( params ) { statements }
params: | listed
listed: param | listed , param
param: int NAME | ref NAME
statements: | statements statement
statement: int NAME = A ; | ref NAME = A ; | E ; | return E ; | while ( E ) { statements }
statement: if ( E ) { statements } | if ( E ) { statements } else { statements }
E: A | E , A
A: LV = M A | LV += M A | C
LV: NAME | NAME [ E ] | * U
C: O ? E : C | O
O: N !! O || N
N: Q !! N && Q
Q: L !! Q == M L
L: S !! L < M S
S: T !! S + M T !! S - M T
T: U !! T * M U !! T / M U !! T ~ M U
U: - M U | ! M U | * M U | & NAME | & NAME [ M E ] | P
P: NUMBER | NAME | NAME [ M E ] | NAME ( ) | NAME ( given ) | NAME # ( given )
P: print M ( A ) | ( E ) | NAME ++ | NAME [ E ] ++ M | ( * U ) ++ M
given: A | given , A
M: | #
"""


def rules_of(text):
    """Return a dict of lists of right sides; a line with !! has its alternatives parted by that."""
    rules = {}
    for line in text.strip().split("\n"):
        left, right = line.split(":", 1)
        parted = right.split("!!") if "!!" in right else (" " + right + " ").split(" | ")
        rules.setdefault(left, []).extend(tuple(part.split()) for part in parted)
    return rules


RULES = rules_of(GRAMMAR)
EMPTY = {left for left, rights in RULES.items() if () in rights}


def fail_index(start, words):
    """Return the index of the first word up to which no text begins; len(words) if only the end
    is missing; None if the words are a text (Earley's way)."""
    columns = [{}]
    _add(columns[0], [(left, right, 0, 0) for left, right in _starting(start)], columns)
    for at, word in enumerate(words):
        moved = [(left, right, dot + 1, begin) for left, right, dot, begin in columns[at]
                 if dot < len(right) and right[dot] == word]
        if not moved:
            return at
        columns.append({})
        _add(columns[-1], moved, columns)
    ended = any(left == start and dot == len(right) and begin == 0
                for left, right, dot, begin in columns[-1])
    return None if ended else len(words)


def _starting(left):
    return [(left, right) for right in RULES[left]]


def _add(column, fresh, columns):
    here = len(columns) - 1
    while fresh:
        state = fresh.pop()
        if state in column:
            continue
        column[state] = True
        left, right, dot, begin = state
        if dot == len(right):
            if begin < here:
                fresh.extend((one, other, at + 1, start)
                             for one, other, at, start in columns[begin]
                             if at < len(other) and other[at] == left)
            continue
        if right[dot] in RULES:
            fresh.extend((one, other, 0, here) for one, other in _starting(right[dot]))
            if right[dot] in EMPTY:
                fresh.append((left, right, dot + 1, begin))
