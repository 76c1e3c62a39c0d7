"""The errors of the package; each keeps what it tells in an attribute."""

from openorder.tuples import tuples_of


class BadText(ValueError):
    """A text that no program or no function has; at is the index of the first wrong word."""

    def __init__(self, at):
        self.at = at
        ValueError.__init__(self, f"the text is wrong at {at}")


class BadLine(ValueError):
    """A line that is no request; at is its index among all lines."""

    def __init__(self, at):
        self.at = at
        ValueError.__init__(self, f"line {at} is no request")


class BadCode(ValueError):
    """A line that no text of code has there; line is its index."""

    def __init__(self, line):
        self.line = line
        ValueError.__init__(self, f"line {line} is wrong")


class BadDeed(ValueError):
    """An item that is no deed; at is its index."""

    def __init__(self, at):
        self.at = at
        ValueError.__init__(self, f"item {at} is no deed")


class Unsound(ValueError):
    """A program that is not sound; fault is its first fault, a pair."""

    def __init__(self, fault):
        self.fault = tuples_of(fault)
        ValueError.__init__(self, f"the program has the fault {self.fault}")


class OtherInputs(ValueError):
    """Another number of inputs than main has parameters; many is their number."""

    def __init__(self, many):
        self.many = many
        ValueError.__init__(self, f"there must be {many} inputs")


class Known(ValueError):
    """A name that a function has already."""

    def __init__(self, name):
        self.name = name
        ValueError.__init__(self, f"there is a function {name}")


class Unlike(ValueError):
    """Two runs with other turns; at is the place of the first turn that has no like one."""

    def __init__(self, at):
        self.at = at
        ValueError.__init__(self, f"turn {at} has no like one")


class NoNode(LookupError):
    """A number that is no node of the program."""

    def __init__(self, node):
        self.node = node
        LookupError.__init__(self, f"there is no node {node}")


class NoFunction(LookupError):
    """A name that no function has."""

    def __init__(self, name):
        self.name = name
        LookupError.__init__(self, f"there is no function {name}")


class NoItem(LookupError):
    """A pair that is no item of the program."""

    def __init__(self, item):
        self.item = tuples_of(item)
        LookupError.__init__(self, f"there is no item {self.item}")


class NoPair(LookupError):
    """Two items that are no refused pair."""

    def __init__(self, pair):
        self.pair = tuples_of(pair)
        LookupError.__init__(self, f"{self.pair} is no refused pair")


class NoMark(LookupError):
    """A number of no node that can be marked."""

    def __init__(self, node):
        self.node = node
        LookupError.__init__(self, f"node {node} cannot be marked")


class NoRun(LookupError):
    """Turns of no run; at is the place of the first one that is not possible."""

    def __init__(self, at):
        self.at = at
        LookupError.__init__(self, f"turn {at} is not possible")


class NoTurn(LookupError):
    """A place at which a run has no turn."""

    def __init__(self, at):
        self.at = at
        LookupError.__init__(self, f"there is no turn {at}")


class NoDeed(LookupError):
    """A number of deeds that cannot be undone."""

    def __init__(self, many):
        self.many = many
        LookupError.__init__(self, f"there are no {many} deeds")


class Cut(RuntimeError):
    """A run that is cut after the most turns."""

    def __init__(self, most):
        self.most = most
        RuntimeError.__init__(self, f"the run is cut after {most} turns")


class Conflicted(RuntimeError):
    """A run that meets a conflict, its first one."""

    def __init__(self, conflict):
        self.conflict = tuples_of(conflict)
        RuntimeError.__init__(self, f"the run meets {self.conflict}")


class Last(RuntimeError):
    """A turn behind whose piece no other one stands side by side."""

    def __init__(self, at):
        self.at = at
        RuntimeError.__init__(self, f"no piece stands behind turn {at}")


class Bound(RuntimeError):
    """A turn that must come before the piece behind it."""

    def __init__(self, at):
        self.at = at
        RuntimeError.__init__(self, f"turn {at} must come first")


class Early(RuntimeError):
    """An ITEM that came already or comes too soon; at is its place."""

    def __init__(self, at):
        self.at = at
        RuntimeError.__init__(self, f"ITEM {at} comes too soon")


class TooMany(OverflowError):
    """Too much to count or to list; many is the number that the document tells."""

    def __init__(self, many):
        self.many = many
        OverflowError.__init__(self, f"too many: {many}")
