"""Code with fewer temporaries."""

from openorder.fits import Fit
from openorder.rows import written_by
from openorder.tuples import tuples_of


def fitted(code, registers):
    """Return CODE that does the same with temporaries less than registers."""
    entries, routines = tuples_of(code)
    return (entries, tuple([fitted_routine(routine, registers) for routine in routines]))


def fitted_routine(routine, registers):
    """Return a routine with temporaries less than registers; one that has no others stays as it is."""
    name, params, inner, rows = routine
    if max([written_by(row) for row in rows], default=-1) < registers:
        return routine
    return (name, params, inner, Fit(rows, registers).fit())
