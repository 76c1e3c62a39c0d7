"""Programs run, in any order that is allowed."""

from openorder.errors import NoRun
from openorder.layout import Layout
from openorder.running import Running
from openorder.tuples import tuples_of


def run(program, inputs, choices=(), *, most=2000):
    """Return the RESULT of the run of these CHOICES, cut after the most turns."""
    running = Running(Layout(program), tuples_of(inputs))
    follow(running, choices, most)
    return running.outcome()


def turns(program, inputs, choices=(), *, most=2000):
    """Return the list of the TURNs of the run of these CHOICES, cut after the most turns."""
    return follow(Running(Layout(program), tuples_of(inputs)), choices, most)


def possible(program, inputs, choices):
    """Return the list of the TURNs that are possible behind the turns of these CHOICES."""
    running = Running(Layout(program), tuples_of(inputs))
    follow(running, choices, len(choices))
    return running.offers()


def choices_of(program, inputs, some):
    """Return the CHOICES of a run that begins with these TURNs; raise NoRun(at) if none does."""
    running = Running(Layout(program), tuples_of(inputs))
    choices = []
    for at, turn in enumerate(tuples_of(some)):
        offers = running.offers()
        if turn not in offers:
            raise NoRun(at)
        choices.append(offers.index(turn))
        running.take(choices[-1])
    return without_noughts(choices)


def follow(running, choices, most):
    """Do the turns of these CHOICES, 0 behind their end, at most so many; return their list."""
    done = []
    while running.end is None and len(done) < most:
        choice = choices[len(done)] if len(done) < len(choices) else 0
        offers = running.offers()
        place = min(choice, len(offers) - 1)
        done.append(offers[place])
        running.take(place)
    return done


def without_noughts(choices):
    """Return the CHOICES without those at the end that are 0."""
    end = len(choices)
    while end > 0 and choices[end - 1] == 0:
        end -= 1
    return choices[:end]
