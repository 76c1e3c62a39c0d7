"""Where references point, what functions touch."""

from openorder.errors import NoFunction
from openorder.footprints import Footprints
from openorder.pointers import Pointers


def targets(program):
    """Return the ascending list of (function, variable, names) of all reference variables."""
    found = Pointers(program).targets
    return sorted([(function, name, tuple(sorted(list(found[(function, name)])))) for function, name in found])


def footprint(program, function):
    """Return the names that a call of the function may read, and those that it may write."""
    found = footprints_of(program)
    if function not in found:
        raise NoFunction(function)
    return found[function]


def footprints_of(program):
    """Return the dict of the footprints of all functions, by their names."""
    footprints = Footprints(Pointers(program))
    found = {}
    for name in footprints.touched:
        found[name] = (footprints.names(name, "read"), footprints.names(name, "write"))
    return found
