"""A workshop: a program that is changed by deeds, which can be undone."""

from openorder.checker import refused
from openorder.code import compiled
from openorder.errors import BadDeed, Known, NoDeed, NoFunction, Unsound
from openorder.kinds import fault_of
from openorder.machine import run_by
from openorder.mending import first_mend, mended
from openorder.nodes import node_many
from openorder.pointing import footprints_of
from openorder.reader import program_text
from openorder.tuples import tuples_of

MOST_TURNS = 2000

# The names of the deeds, with the numbers of their arguments.
DEEDS = {"put": 1, "replace": 1, "take": 1, "lay": 1, "mend": 0}


class Workshop:
    """A sound program, and the ones that it was before.

    states has the programs behind the deeds in effect, the first one ahead of them; before is the
    program ahead of what was done or undone last.
    """

    def __init__(self, program):
        told = tuples_of(program)
        check(told)
        self.states = [told]
        self.before = told
        self.logged = []

    def put(self, function):
        """Let a function come last but for main; return the number of functions then."""
        entries, functions = self.states[-1]
        made = tuples_of(function)
        if made[0] in self.functions():
            raise Known(made[0])
        self.go_on((entries, functions[:-1] + (made,) + functions[-1:]))
        return len(functions) + 1

    def replace(self, function):
        """Let a function take the place of the one with its name; return the number of its nodes."""
        entries, functions = self.states[-1]
        made = tuples_of(function)
        at = self.place_of(made[0])
        self.go_on((entries, functions[:at] + (made,) + functions[at + 1:]))
        return node_many(((), (made,)))

    def take(self, name):
        """Take a function away, which is not main; return the number of its nodes."""
        entries, functions = self.states[-1]
        at = self.place_of(name)
        if name == "main":
            raise NoFunction(name)
        self.go_on((entries, functions[:at] + functions[at + 1:]))
        return node_many(((), (functions[at],)))

    def lay(self, entry):
        """Let a global take the place of the one with its name, or come last; return their number."""
        entries, functions = self.states[-1]
        made = tuples_of(entry)
        names = [told[1] for told in entries]
        at = names.index(made[1]) if made[1] in names else len(entries)
        laid = entries[:at] + (made,) + entries[at + 1:]
        self.go_on((laid, functions))
        return len(laid)

    def mend(self):
        """Mark the nodes of the first mend; return them."""
        nodes = first_mend(self.states[-1])
        self.go_on(mended(self.states[-1], nodes))
        return nodes

    def undo(self):
        """Take back the last deed in effect; tell whether there was one."""
        if len(self.states) == 1:
            return False
        self.before = self.states[-1]
        self.states = self.states[:-1]
        return True

    def do(self, deeds, *, whole=True):
        """Do deeds, one after another; if one raises an error, none is in effect, unless whole is False."""
        for at, deed in enumerate(deeds):
            if not is_deed(deed):
                raise BadDeed(at)
        states, before = self.states, self.before
        results = []
        done = 0
        self.logged.append(("in", len(deeds)))
        try:
            for deed in deeds:
                results.append(self.do_one(deed))
                done += 1
                self.logged.append(deed[0])
        except (Known, NoFunction, Unsound):
            if whole:
                self.states, self.before = states, before
            raise
        finally:
            self.logged.append(("out", done))
        return results

    def do_one(self, deed):
        """Do one deed; return its result."""
        word = deed[0]
        if word == "mend":
            return self.mend()
        if word == "put":
            return self.put(deed[1])
        if word == "replace":
            return self.replace(deed[1])
        return self.take(deed[1]) if word == "take" else self.lay(deed[1])

    def go_on(self, program):
        """Let a program be the one there is, behind one more deed; raise Unsound(fault) if it is not sound."""
        check(program)
        self.before = self.states[-1]
        self.states = self.states + [program]

    def place_of(self, name):
        """Return the place of the function with a name; raise NoFunction(name) if there is none."""
        names = self.functions()
        if name not in names:
            raise NoFunction(name)
        return names.index(name)

    def program_now(self):
        """Return the program."""
        return self.states[-1]

    def text(self):
        """Return the text of the program."""
        return program_text(self.states[-1])

    def functions(self):
        """Return the list of the names of the functions, in their order."""
        return [function[0] for function in self.states[-1][1]]

    def run(self, inputs):
        """Return the RESULT of the run from left to right."""
        return run_by(self.states[-1], inputs, (), MOST_TURNS)

    def first_refused(self):
        """Return the first refused pair, or None."""
        pairs = refused(self.states[-1])
        return pairs[0] if len(pairs) > 0 else None

    def footprint(self, name):
        """Return what a call of a function may read and write; raise NoFunction(name) for no function."""
        found = footprints_of(self.states[-1])
        if name not in found:
            raise NoFunction(name)
        return found[name]

    def code_for(self, registers=4):
        """Return the program compiled."""
        return compiled(self.states[-1], registers)

    def changed(self):
        """Return the ascending list of the functions whose footprints were not so before what was done last."""
        old = footprints_of(self.before)
        new = footprints_of(self.states[-1])
        return sorted([name for name in new if name not in old or old[name] != new[name]])

    def deeds(self):
        """Return the number of the deeds that can be undone."""
        return len(self.states) - 1

    def as_of(self, many):
        """Return a new Workshop behind the first deeds, so many; raise NoDeed(many) if there are fewer."""
        if not 0 <= many < len(self.states):
            raise NoDeed(many)
        made = Workshop(self.states[many])
        made.states = self.states[:many + 1]
        return made

    def log(self):
        """Return what do has written."""
        return list(self.logged)

    def __len__(self):
        return len(self.states[-1][1])

    def __eq__(self, other):
        return isinstance(other, Workshop) and self.states[-1] == other.states[-1]

    def __repr__(self):
        return f"Workshop({len(self.states[-1][1])} functions, {node_many(self.states[-1])} nodes)"


def check(program):
    """Raise Unsound(fault) if a program is not sound."""
    fault = fault_of(program)
    if fault is not None:
        raise Unsound(fault)


def is_deed(item):
    """Tell whether an item is a tuple of the name of a deed and as many arguments as that has."""
    if not isinstance(item, tuple) or len(item) == 0 or not isinstance(item[0], str):
        return False
    return item[0] in DEEDS and len(item) == DEEDS[item[0]] + 1
