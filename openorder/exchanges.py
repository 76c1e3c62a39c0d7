"""Runs turned into others by exchanges of neighbouring pieces."""

from openorder.errors import Bound, Conflicted, Last, NoTurn
from openorder.likeness import Turning, like_places, turned_many
from openorder.machine import begun, choices_along, without_noughts
from openorder.meetings import conflict_of, first_meeting
from openorder.trails import Trail


def exchanged(program, inputs, choices, at, *, most=2000):
    """Return the CHOICES with the piece of turn at and the one side by side behind it exchanged."""
    trail = Trail(program, inputs, choices, most)
    turns = trail.turns()
    if not 0 <= at < len(turns):
        raise NoTurn(at)
    ends = trail.piece_ends()
    behind = ends[at]
    if behind == len(turns) or trail.homes[behind] != trail.homes[at]:
        raise Last(at)
    if trail.orders.must_come_before(trail.item_of(at), trail.item_of(behind)):
        raise Bound(at)
    end = ends[behind]
    return choices_for(program, inputs, turns[:at] + turns[behind:end] + turns[at:behind] + turns[end:])


def choices_for(program, inputs, some):
    """Return the CHOICES that follow these TURNs as long as each is possible."""
    return without_noughts(choices_along(begun(program, inputs), some))


def apart(program, inputs, one, other, *, most=2000):
    """Return how many pairs of pieces of one evaluation come the other way about in the other run."""
    trail = Trail(program, inputs, one, most)
    places = like_places(trail, Trail(program, inputs, other, most))
    return sum([turned_many(pieces, places) for pieces in trail.pieces()])


def between(program, inputs, one, other, *, most=2000):
    """Return the places at which pieces are exchanged, one after another, to come to the other run."""
    trail = Trail(program, inputs, one, most)
    places = like_places(trail, Trail(program, inputs, other, most))
    meeting = first_meeting(trail)
    if meeting is not None:
        raise Conflicted(conflict_of(trail, meeting))
    return Turning(trail, places).exchanges


def turned_about(program, inputs, choices, *, most=2000):
    """Return CHOICES by which the second access of the first conflict comes without the first one."""
    trail = Trail(program, inputs, choices, most)
    meeting = first_meeting(trail)
    if meeting is None:
        return None
    home = meeting[2]
    one = trail.piece_around(meeting[0], home)
    other = trail.piece_around(meeting[1], home)
    ends = trail.piece_ends()
    turns = trail.turns()
    some = turns[:one]
    for piece in trail.pieces()[home]:
        is_needed = trail.orders.must_come_before(trail.item_of(piece), trail.item_of(other))
        if piece == other or one < piece < other and is_needed:
            some.extend(turns[piece:ends[piece]])
    return choices_for(program, inputs, some)
