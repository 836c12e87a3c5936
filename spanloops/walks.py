"""Runs of a loop over all lists at once, with ranks in the place of edges.

A loop only compares edges and passes them on. So what it does next depends on how the values
that it still knows are ordered, not on how great they are. A *stand* tells this: a tuple (state,
ranks, word) with a rank for each name of `slots`, None for one without a value, and the word of
the last event where the order of the loop needs it. In a step, the value with the rank r is
4 * r, so that two new edges of an item have room between two old ones.
"""

from spanloops.orders import SORT_EDGES, reads_events, sort_key
from spanloops.runs import Run

WIDE = 4


def slot_names(loop, wish, extra):
    """The names that have a place in a situation, in its order; `extra` is followed besides the loop."""
    names = [name for name in ("first", "last") if name in loop.known]
    if loop.uses_window or wish.uses_window:
        names += ["left", "right"]
    if extra is not None:
        names.append(extra)
    return tuple(names) + loop.registers + SORT_EDGES[loop.order]


def ranked(names, edges):
    """The ranks of the values of these names, None for one without a value; and the values, ascending."""
    held = [edges.get(name) for name in names]
    line = sorted({edge for edge in held if edge is not None})
    ranks = {edge: rank for rank, edge in enumerate(line)}
    return tuple([ranks.get(edge) for edge in held]), line


def starts(names):
    """All ranks that these names may have before a run."""
    found = {}
    for left in range(4):
        for right in range(left + 1, 5):
            for moment in range(1, 4):
                edges = {"first": 0, "last": 4, "left": left, "right": right, "moment": moment}
                found[ranked(names, edges)[0]] = True
    return list(found)


class Walk:
    """Follows a loop and what a watch follows, from stand to stand."""

    def __init__(self, loop, wish, watch):
        self.given = loop
        self.watch = watch
        self.slots = slot_names(loop, wish, watch.extra)
        self.moves = {}
        self.closings = {}

    def edges_at(self, ranks):
        """The values of the names."""
        return {name: None if rank is None else WIDE * rank for name, rank in zip(self.slots, ranks)}

    def run_at(self, stand):
        """A run that stands there, with nothing put out and added since then."""
        state, ranks, word = stand
        run = Run(self.edges_at(ranks))
        run.state = state
        run.word = word
        return run

    def settled(self, run, item):
        """Where the run stands now, the gain of the watch, and the values that it knows, ascending."""
        gain = self.watch.gain(run, item)
        ranks, line = ranked(self.slots, run.edges)
        word = run.word if self.given.order in ("at in", "at out") else None
        return (run.state, ranks, word), gain, line

    def opened(self, ranks):
        """What `ahead` makes of a start."""
        run = self.run_at(("reading", ranks, None))
        run.do_part("ahead", self.given.ahead)
        return self.settled(run, None)

    def stepped(self, stand, item):
        """What one more item makes of a stand."""
        run = self.run_at(stand)
        run.take(item)
        if run.state == "reading":
            run.do_part("each", self.given.each)
        return self.settled(run, item)

    def moves_from(self, stand):
        """The stands and gains that one more item leads to, each with such an item."""
        if stand not in self.moves:
            found = {}
            for item in self.items_at(stand):
                behind, gain, _ = self.stepped(stand, item)
                found[(behind, gain)] = item
            self.moves[stand] = found
        return self.moves[stand]

    def closing_of(self, stand):
        """The gain of the watch when the run ends there, None if it breaks."""
        if stand not in self.closings:
            run = self.run_at(stand)
            if not run.has_ended():
                run.do_part("behind", self.given.behind)
            self.closings[stand] = None if run.state == "broken" else self.watch.gain(run, None)
        return self.closings[stand]

    def has_fault(self, node):
        """Whether there is a fault when the run ends there."""
        stand, memory = node
        gain = self.closing_of(stand)
        if gain is None:
            return True
        return self.watch.fails(self.edges_at(stand[1]), self.watch.after(memory, gain))

    def items_at(self, stand):
        """Items that may come next, one for each way in which they lie between the values."""
        edges = self.edges_at(stand[1])
        items = event_places(edges) if reads_events(self.given.order) else stretch_places(edges)
        last = self.last_item(stand, edges)
        if last is None:
            return items
        key = sort_key(self.given.order, last)
        return [item for item in items if sort_key(self.given.order, item) >= key]

    def last_item(self, stand, edges):
        """The sort edges of the last item in its place, None if there is none or the order has none."""
        known = [edges[name] for name in SORT_EDGES[self.given.order]]
        if not known or known[0] is None:
            return None
        if reads_events(self.given.order):
            return (stand[2], edges["at"])
        return (edges.get("begin"), edges.get("end"))


def places(edges):
    """The values, and one new value below, between and above them; not beyond FIRST and LAST."""
    held = sorted({edge for edge in edges.values() if edge is not None})
    gaps = [edge + 1 for edge in held]
    if "first" not in edges:
        gaps.append(1 - WIDE)
    if "last" in edges:
        gaps.remove(edges["last"] + 1)
    return held, gaps


def event_places(edges):
    """Events, one for each place."""
    held, gaps = places(edges)
    inner = [edge for edge in held if edge not in (edges.get("first"), edges.get("last"))]
    return [(word, at) for at in inner + gaps for word in ("in", "out")]


def stretch_places(edges):
    """Stretches, one for each pair of places; two if both edges are new and in one gap."""
    held, gaps = places(edges)
    begins = [edge for edge in held + gaps if edge != edges.get("last")]
    ends = [edge for edge in held + gaps if edge != edges.get("first")]
    found = [(begin, end) for begin in begins for end in ends if begin <= end]
    return found + [(gap, gap + 1) for gap in gaps]


def search(walk, most):
    """Goes through all lists of fewer than `most` items, or all lists if it is None.

    Returns the links of all nodes (stand, memory), each a tuple (node before it, item), and the
    first node with a fault, None if there is none. A start has no node before it.
    """
    links = {}
    level = []
    for ranks in starts(walk.slots):
        stand, gain, _ = walk.opened(ranks)
        node = (stand, walk.watch.after(walk.watch.start, gain))
        if node not in links:
            links[node] = (None, ranks)
            level.append(node)
    many = 0
    while level and (most is None or many < most):
        for node in level:
            if walk.has_fault(node):
                return links, node
        level = next_level(walk, links, level)
        many += 1
    return links, None


def next_level(walk, links, level):
    """The nodes that one more item leads to from these, without those that have links; links them."""
    found = []
    for node in level:
        for (stand, gain), item in walk.moves_from(node[0]).items():
            behind = (stand, walk.watch.after(node[1], gain))
            if behind not in links:
                links[behind] = (node, item)
                found.append(behind)
    return found
