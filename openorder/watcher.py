"""Runs watched for conflicts."""

from openorder.meetings import conflict_of, conflicts_of, first_meeting
from openorder.trails import Trail


def accesses(program, inputs, choices=(), *, most=2000):
    """Return the list of the accesses of the run, each (turn, PLACE, "read" or "write")."""
    sights = Trail(program, inputs, choices, most).sights
    return [(at, sight[0], sight[1]) for at, sight in enumerate(sights) if sight is not None]


def conflicts(program, inputs, choices=(), *, most=2000):
    """Return the ascending list of all CONFLICTs of the run."""
    return conflicts_of(Trail(program, inputs, choices, most))


def first_conflict(program, inputs, choices=(), *, most=2000):
    """Return the CONFLICT of the earliest access that has one, with the last one ahead, or None."""
    trail = Trail(program, inputs, choices, most)
    meeting = first_meeting(trail)
    return None if meeting is None else conflict_of(trail, meeting)


def is_calm(program, inputs, choices=(), *, most=2000):
    """Tell whether the run has no CONFLICT and is not cut."""
    trail = Trail(program, inputs, choices, most)
    return not trail.is_cut and first_meeting(trail) is None
