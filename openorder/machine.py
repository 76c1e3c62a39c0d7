"""Programs run, in any order that is allowed."""

from openorder.errors import NoRun
from openorder.layout import Layout
from openorder.running import Running


def run(program, inputs, choices=(), *, most=2000):
    """Return the RESULT of the run of these CHOICES, cut after the most turns."""
    return run_by(program, inputs, choices, most)


def run_by(program, inputs, choices, most):
    """Return what run returns."""
    running = begun(program, inputs)
    chosen_many = len(choices)
    for at in range(most):
        if running.end is not None:
            break
        running.take(place_chosen(running, choices, at) if at < chosen_many else 0)
    return running.outcome()


def turns(program, inputs, choices=(), *, most=2000):
    """Return the list of the TURNs of the run of these CHOICES, cut after the most turns."""
    running = begun(program, inputs)
    chosen_many = len(choices)
    done = []
    for at in range(most):
        if running.end is not None:
            break
        place = place_chosen(running, choices, at) if at < chosen_many else 0
        done.append(running.turn_at(place))
        running.take(place)
    return done


def possible(program, inputs, choices):
    """Return the list of the TURNs that are possible behind the turns of these CHOICES."""
    running = begun(program, inputs)
    for at in range(len(choices)):
        if running.end is not None:
            return []
        running.take(place_chosen(running, choices, at))
    return running.offers()


def choices_of(program, inputs, some):
    """Return the CHOICES of a run that begins with these TURNs; raise NoRun(at) if none does."""
    choices = choices_along(begun(program, inputs), some)
    if len(choices) < len(some):
        raise NoRun(len(choices))
    return without_noughts(choices)


def begun(program, inputs):
    """Return a run that has just begun."""
    running = Running(Layout(program))
    running.begin(inputs)
    return running


def place_chosen(running, choices, at):
    """Return the place, among the possible turns, of the one that the choice at this place takes."""
    return min(choices[at], running.many_possible() - 1) if at < len(choices) else 0


def choices_along(running, some):
    """Do these TURNs as long as each is possible; return the list of the choices made."""
    choices = []
    for turn in some:
        place = running.place_of(turn)
        if place < 0:
            return choices
        choices.append(place)
        running.take(place)
    return choices


def without_noughts(choices):
    """Return the CHOICES without those at the end that are 0."""
    end = len(choices)
    while end > 0 and choices[end - 1] == 0:
        end -= 1
    return choices[:end]
