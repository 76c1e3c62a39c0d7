"""Masks: integers that stand for sets of numbers, with a one at the place of each of them."""


def places_in(mask):
    """Return the ascending list of the places of the ones in a mask."""
    places = []
    while mask > 0:
        last = mask & -mask
        places.append(last.bit_length() - 1)
        mask -= last
    return places
