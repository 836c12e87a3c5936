"""Lists that lead to a node of a search: the ranks of its steps made edges again."""

from spanloops.spans import FIRST, LAST
from spanloops.walks import WIDE


class Line:
    """Points in a row that stand for edges; a new one may come between any two of them.

    `here` has the point of each rank of the stand that was reached.
    """

    def __init__(self, many):
        self.points = list(range(many))
        self.here = list(range(many))

    def spots(self, edges):
        """The points of the values of a step, by these; those of the edges that are new are made."""
        spots = {WIDE * rank: point for rank, point in enumerate(self.here)}
        # The greatest first, so that the lesser one of two in a gap comes to stand ahead of it.
        for edge in sorted(set(edges))[::-1]:
            if edge not in spots:
                spots[edge] = self.added(edge // WIDE)
        return spots

    def added(self, rank):
        """A new point right behind the one with the rank, or ahead of all if the rank is below 0."""
        at = 0 if rank < 0 else self.points.index(self.here[rank]) + 1
        point = len(self.points)
        self.points.insert(at, point)
        return point

    def edges_for(self, slots):
        """An edge for each point."""
        edges = {point: edge for edge, point in enumerate(self.points)}
        if "first" in slots:
            edges[self.points[0]] = FIRST
        if "last" in slots:
            edges[self.points[-1]] = LAST
        return edges


def path_to(links, node):
    """The ranks of the start, and the tuples (stand, item) from there to the node."""
    path = []
    before, told = links[node]
    while before is not None:
        path.append((before[0], told))
        before, told = links[before]
    return told, path[::-1]


def example_of(walk, links, node):
    """Items, a window and a moment that lead to the node; None for what does not matter."""
    ranks, path = path_to(links, node)
    line = Line(len({rank for rank in ranks if rank is not None}))
    start = dict(zip(walk.slots, ranks))
    line.here = [line.here[edge // WIDE] for edge in walk.opened(ranks)[2]]
    items = []
    for stand, item in path:
        spots = line.spots([edge for edge in item if edge not in ("in", "out")])
        items.append(tuple([spots.get(edge, edge) for edge in item]))
        line.here = [spots[edge] for edge in walk.stepped(stand, item)[2]]
    edges = line.edges_for(walk.slots)
    spans = tuple([tuple([edges.get(point, point) for point in item]) for item in items])
    window = None
    if "left" in start:
        window = (edges[start["left"]], edges[start["right"]])
    moment = edges[start["moment"]] if "moment" in start else None
    return spans, window, moment
