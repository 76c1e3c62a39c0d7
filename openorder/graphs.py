"""All runs of a program together: their STATEs, and which of them lead to which."""

from openorder.errors import TooMany
from openorder.most import MOST_STATES
from openorder.running import Running


class Graph:
    """The STATEs of all runs with some inputs, numbered by the turns behind which they stand.

    nexts has, for each, the list of those behind its possible turns, in their order; counts a dict
    of the numbers of runs from there on, by their RESULTs.
    """

    def __init__(self, layout, inputs, most):
        self.nexts = []
        self.results = []
        self.counts = []
        first = Running(layout)
        first.begin(inputs)
        layer = [(self.add_state(first), first)]
        for many in range(most):
            if len(layer) == 0:
                break
            layer = self.next_layer(layer)
        for number, running in layer:
            self.results[number] = running.outcome()
        self.count_runs()

    def add_state(self, running):
        """Add a STATE; return its number."""
        if len(self.nexts) == MOST_STATES:
            raise TooMany(MOST_STATES)
        self.nexts.append([])
        self.results.append(None if running.end is None else running.outcome())
        return len(self.nexts) - 1

    def next_layer(self, layer):
        """Return the STATEs behind one more turn, as pairs (number, run), but for runs that are over."""
        numbers = {}
        found = []
        is_alone = len(layer) == 1 and layer[0][1].many_possible() == 1
        for number, running in layer:
            last = running.many_possible() - 1
            for place in range(last + 1):
                behind = running.twin() if place < last else running
                behind.take(place)
                state = () if is_alone else state_of(behind)
                if state not in numbers:
                    numbers[state] = self.add_state(behind)
                    if behind.end is None:
                        found.append((numbers[state], behind))
                self.nexts[number].append(numbers[state])
        return found

    def count_runs(self):
        """Count the runs from each STATE on; all that lie behind it have greater numbers."""
        self.counts = [{} for _ in self.nexts]
        for number in reversed(range(len(self.nexts))):
            behind = self.nexts[number]
            if len(behind) == 1:
                self.counts[number] = self.counts[behind[0]]
            else:
                self.counts[number] = self.count_behind(number)

    def count_behind(self, number):
        """Return the numbers of runs from a STATE on: of an end one, of any other those of the next ones."""
        if self.results[number] is not None:
            return {self.results[number]: 1}
        count = {}
        for behind in self.nexts[number]:
            for result, many in self.counts[behind].items():
                count[result] = count.get(result, 0) + many
        return count

    def least_choices(self, result):
        """Return the least choices, one for each turn, of a run with this RESULT."""
        choices = []
        number = 0
        while len(self.nexts[number]) > 0:
            place = 0
            while result not in self.counts[self.nexts[number][place]]:
                place += 1
            choices.append(place)
            number = self.nexts[number][place]
        return choices

    def fork(self):
        """Return the least choices to a STATE whose turns each leave one RESULT, and these RESULTs."""
        choices = []
        number = 0
        while True:
            counts = [self.counts[behind] for behind in self.nexts[number]]
            several = [place for place, told in enumerate(counts) if len(told) > 1]
            if len(several) == 0:
                return choices, tuple([list(told)[0] for told in counts])
            choices.append(several[0])
            number = self.nexts[number][several[0]]


def state_of(running):
    """Return a STATE, but for the number of its turns, as a value that can be compared."""
    bodies = tuple([state_of_body(body) for body in running.bodies])
    end = () if running.end is None else running.end
    return (running.values_of_globals(), tuple(running.output), bodies, end)


def state_of_body(body):
    """Return what a STATE tells of a body at work.

    The places and the values of the writes still due follow from the values worked out.
    """
    return (body.row, body.call, pairs_in(body.variables), pairs_in(body.worked),
            tuple(sorted(list(body.due))), pairs_in(body.failed))


def pairs_in(table):
    """Return the ascending tuple of the pairs (key, value) of a dict."""
    return tuple(sorted([(key, table[key]) for key in table]))
