"""Code improved, pass by pass."""

from openorder.carrying import carry
from openorder.code import rows_of
from openorder.drafts import Draft
from openorder.dropping import drop
from openorder.facts import Facts
from openorder.folding import fold
from openorder.lifting import lift
from openorder.sharing import share
from openorder.tuples import tuples_of

PASSES = ("fold", "share", "carry", "drop", "lift")


def improved(program, code, word):
    """Return the CODE after a pass, and the ascending list of its steps."""
    return code_and_steps(Facts(tuples_of(program)), tuples_of(code), word)


def optimized(program, words=PASSES):
    """Return the CODE of rows_of after these passes, one after another."""
    facts = Facts(tuples_of(program))
    code = rows_of(program)
    for word in words:
        code = code_and_steps(facts, code, word)[0]
    return code


def code_and_steps(facts, code, word):
    """Return what improved returns."""
    entries, routines = code
    done = []
    steps = []
    for routine in routines:
        draft = Draft(routine)
        do_pass(draft, facts, word)
        done.append(draft.routine())
        steps.extend([(draft.name, at, draft.steps[at]) for at in draft.steps])
    return (entries, tuple(done)), sorted(steps)


def do_pass(draft, facts, word):
    """Do a pass over a routine."""
    if word == "fold":
        fold(draft)
    elif word == "share":
        share(draft)
    elif word == "carry":
        carry(draft, facts)
    elif word == "drop":
        drop(draft, facts)
    else:
        lift(draft, facts)
