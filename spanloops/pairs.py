"""Two loops over the same lists at once, from stand to stand.

A stand of both is a tuple (states, ranks, word) as a stand of one is; the states are a tuple
(state of one, its answer, state of the other, its answer).
"""

from spanloops.orders import SORT_EDGES
from spanloops.rules import REGISTERS
from spanloops.runs import Run
from spanloops.walks import Walk, ranked
from spanloops.watches import times_put

# What the registers of the other loop are called among the names of both.
OTHERS = {"low": "other low", "high": "other high", "mark": "other mark"}


def shared_names(one, other):
    """The names of a situation of both loops, without their registers and the sort edges."""
    names = [name for name in ("first", "last") if name in one.known or name in other.known]
    if one.uses_window or other.uses_window:
        names += ["left", "right"]
    return tuple(names) + ("moment",)


def forget_registers(run):
    """Unsets the registers of a run that has ended, as nothing reads them any more."""
    if run.has_ended():
        for name in REGISTERS:
            run.edges[name] = None


class PairWatch:
    """Follows how much more one loop adds than the other one, and how much oftener it puts a moment out."""

    def __init__(self, ends):
        self.ends = ends
        self.start = (0, 0)

    def lead(self, one, other):
        """What one run gains on the other one."""
        return (one.tally - other.tally, times_put(one, self.ends) - times_put(other, self.ends))

    def after(self, memory, gain):
        """The memory after a gain."""
        return (memory[0] + gain[0], memory[1] + gain[1])

    def fails(self, edges, memory):
        """Whether the tallies differ, or how often the moment is put out."""
        return memory != self.start


class PairWalk(Walk):
    """Follows two loops of one order; a run is here a tuple of both runs."""

    def __init__(self, one, other, ends):
        self.given = one
        self.other = other
        self.watch = PairWatch(ends)
        self.slots = (shared_names(one, other) + one.registers + tuple([OTHERS[name] for name in other.registers])
                      + SORT_EDGES[one.order])
        self.moves = {}
        self.closings = {}

    def run_at(self, stand):
        """Both runs, with nothing put out and added since then."""
        states, ranks, word = stand
        edges = self.edges_at(ranks)
        one = Run({name: edges.get(name) for name in self.slots + REGISTERS})
        other = Run({name: edges.get(OTHERS.get(name, name)) for name in self.slots + REGISTERS})
        one.state, one.answer, other.state, other.answer = states
        one.word = other.word = word
        return one, other

    def settled(self, run, item):
        """Where both runs stand now, what one gains on the other, and the values that they know, ascending."""
        one, other = run
        gain = self.watch.lead(one, other)
        forget_registers(one)
        forget_registers(other)
        edges = dict(one.edges)
        for name in self.other.registers:
            edges[OTHERS[name]] = other.edges[name]
        ranks, line = ranked(self.slots, edges)
        word = one.word if self.given.order in ("at in", "at out") else None
        return ((one.state, one.answer, other.state, other.answer), ranks, word), gain, line

    def opened(self, ranks):
        """What `ahead` of both makes of a start."""
        one, other = self.run_at((("reading", None, "reading", None), ranks, None))
        one.do_part("ahead", self.given.ahead)
        other.do_part("ahead", self.other.ahead)
        return self.settled((one, other), None)

    def stepped(self, stand, item):
        """What one more item makes of a stand."""
        one, other = self.run_at(stand)
        for run, loop in ((one, self.given), (other, self.other)):
            run.take(item)
            if run.state == "reading":
                run.do_part("each", loop.each)
        return self.settled((one, other), item)

    def closing_of(self, stand):
        """What one run gains on the other when both end there, None if one alone breaks or they answer differently."""
        if stand not in self.closings:
            one, other = self.run_at(stand)
            for run, loop in ((one, self.given), (other, self.other)):
                if not run.has_ended():
                    run.do_part("behind", loop.behind)
            alike = (one.state == "broken") == (other.state == "broken") and one.answer == other.answer
            self.closings[stand] = self.watch.lead(one, other) if alike else None
        return self.closings[stand]
