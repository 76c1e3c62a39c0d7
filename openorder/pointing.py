"""Where references point, what functions touch."""

from openorder.errors import NoFunction
from openorder.footprints import Footprints
from openorder.pointers import Pointers


def targets(program):
    """Return the ascending list of (function, variable, names) of all reference variables."""
    found = Pointers(program).targets
    return sorted([(function, name, tuple(sorted(list(found[(function, name)])))) for function, name in found])


def footprint(program, function):
    """Return the names that a call of the function may read, and those that it may write."""
    footprints = Footprints(Pointers(program))
    if function not in footprints.touched:
        raise NoFunction(function)
    return (footprints.names(function, "read"), footprints.names(function, "write"))
