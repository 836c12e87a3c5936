"""Edges, moments and stretches: one form, the union, and a stretch as an object."""

from spanloops.errors import BadEdge, BadEnds, BadItem, BadMoment, BadSpan, TooFar

FIRST = -10 ** 31
LAST = 10 ** 31
FAR = 10 ** 30


class Ends:
    """The two ways to read the ends of a pair of edges."""

    HALF = "half"
    SHUT = "shut"


def is_number(value):
    """Whether any object is an integer; True and False are none."""
    return isinstance(value, int) and not isinstance(value, bool)


def is_edge(value):
    """Whether any object is an edge."""
    return is_number(value) and (-FAR <= value <= FAR or value in (FIRST, LAST))


def is_moment(value):
    """Whether any object is a moment."""
    return is_number(value) and FIRST < value < LAST


def is_pair(value):
    """Whether any object is a tuple of two edges."""
    return isinstance(value, tuple) and len(value) == 2 and is_edge(value[0]) and is_edge(value[1])


def is_stretch(value):
    """Whether any object is a stretch."""
    return is_pair(value) and value[0] <= value[1] and value[0] < LAST and value[1] > FIRST


def is_window(value):
    """Whether any object is a window."""
    return is_pair(value) and value[0] < value[1]


def check_moment(moment):
    """Raises BadMoment of any object that is not a moment."""
    if not is_moment(moment):
        raise BadMoment(moment)


def check_ends(ends):
    """Raises BadEnds of any object that is not a way to read ends."""
    if ends not in (Ends.HALF, Ends.SHUT):
        raise BadEnds(ends)


def check_stretches(spans):
    """Raises BadItem of the first member of the list that is not a stretch."""
    for index, span in enumerate(spans):
        if not is_stretch(span):
            raise BadItem(index)


def holds(pair, moment, ends="half"):
    """Whether a pair of edges holds the moment."""
    check_moment(moment)
    check_ends(ends)
    begin, end = pair
    if ends == Ends.SHUT:
        return begin <= moment <= end
    return begin <= moment < end


def is_empty(pair, ends="half"):
    """Whether a pair of edges is empty."""
    check_ends(ends)
    begin, end = pair
    if ends == Ends.SHUT:
        return begin > end
    return begin >= end


def join_sorted(spans):
    """The stretches of a list that is sorted by begin, those that overlap or touch made one."""
    if not spans:
        return []
    rows = []
    low, high = spans[0]
    for begin, end in spans:
        if begin > high:
            rows.append((low, high))
            low, high = begin, end
        else:
            high = max(high, end)
    rows.append((low, high))
    return rows


def union(spans, ends="half"):
    """The union of a list of stretches in one form, a new list."""
    check_stretches(spans)
    check_ends(ends)
    return join_sorted(sorted([span for span in spans if not is_empty(span, ends)]))


def in_one_form(spans, ends="half"):
    """Whether a list of stretches is in one form as it stands."""
    # The union is in one form, and it leaves what is in one form as it is.
    return union(spans, ends) == list(spans)


def shifted_edge(edge, k):
    """The edge moved by the integer k; open ends stay."""
    if edge in (FIRST, LAST):
        return edge
    moved = edge + k
    if not -FAR <= moved <= FAR:
        raise TooFar(moved)
    return moved


def shifted(pair, k):
    """The pair of edges moved by the integer k, the begin first."""
    return (shifted_edge(pair[0], k), shifted_edge(pair[1], k))


def edge_text(edge):
    """The text of an edge."""
    if edge == FIRST:
        return "first"
    if edge == LAST:
        return "last"
    return str(edge)


def pair_text(pair):
    """The text of a pair of edges."""
    return f"{edge_text(pair[0])}..{edge_text(pair[1])}"


def pairs_text(pairs):
    """The text of a list of pairs of edges."""
    if not pairs:
        return "none"
    return " ".join([pair_text(pair) for pair in pairs])


class Span:
    """A stretch as an object."""

    def __init__(self, begin, end):
        if not is_edge(begin):
            raise BadEdge(begin)
        if not is_edge(end):
            raise BadEdge(end)
        if not is_stretch((begin, end)):
            raise BadSpan((begin, end))
        self.begin = begin
        self.end = end

    @staticmethod
    def ever():
        """The span of all moments."""
        return Span(FIRST, LAST)

    @staticmethod
    def since(edge):
        """The span from this edge on."""
        return Span(edge, LAST)

    @staticmethod
    def until(edge):
        """The span up to this edge."""
        return Span(FIRST, edge)

    @property
    def pair(self):
        """The stretch as a tuple."""
        return (self.begin, self.end)

    @property
    def duration(self):
        """The length, None for an open-ended stretch."""
        if self.begin == FIRST or self.end == LAST:
            return None
        return self.end - self.begin

    def __eq__(self, other):
        return isinstance(other, Span) and self.begin == other.begin and self.end == other.end

    def __bool__(self):
        return bool(self.begin != self.end)

    def __contains__(self, x):
        return is_moment(x) and self.begin <= x < self.end

    def __str__(self):
        return str(pair_text(self.pair))

    def __add__(self, other):
        if not is_number(other):
            return NotImplemented
        begin, end = shifted(self.pair, other)
        return Span(begin, end)

    def __radd__(self, other):
        if not is_number(other):
            return NotImplemented
        return self + other

    def __sub__(self, other):
        # A Spread on the right takes the difference over, by its own method.
        if not is_number(other):
            return NotImplemented
        return self + -other
