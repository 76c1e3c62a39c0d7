"""Code run, and the CHOICES by which a run does what compiled code does."""

from openorder.coderunning import CodeRunning
from openorder.machine import begun, without_noughts
from openorder.planning import ranks_of


def code_run(code, inputs, *, most=20000):
    """Return the RESULT of code, cut after the most ROWs, and how many ROWs were done."""
    running = CodeRunning(code)
    running.begin(inputs)
    running.go(most)
    return (running.outcome(), running.done)


def code_choices(program, inputs, registers=4, *, most=2000):
    """Return the CHOICES of a run that does what the compiled program does, until that is over."""
    running = begun(program, inputs)
    ranks = {}
    choices = []
    while running.end is None and len(choices) < most:
        body = running.bodies[-1]
        if body.top not in ranks:
            ranks[body.top] = ranks_of(running.layout, body.top, registers)
        place = next_place(body, ranks[body.top])
        if place < 0:
            break
        choices.append(place)
        running.take(place)
    return without_noughts(choices)


def next_place(body, ranks):
    """Return the place, among the possible turns, of the one that comes first by the ranks of its nodes.

    Returns -1 if a blocked step comes ahead of it, at which code stops: one of the body itself, or
    one in a call that is blocked for good. (Turns are kept as twice their nodes, writes as one more.)
    """
    if len(body.failed) > 0:
        return -1
    coming = [(ranks[turn // 2], turn) for turn in body.possible]
    first = min(coming)
    for node, _ in body.blocked:
        if ranks[node] < first[0]:
            return -1
    return coming.index(first)
