"""Sets of moments, given by stretches in one form under Ends.HALF."""

from spanloops.errors import BadItem, BadWindow, NoSpan
from spanloops.spans import FIRST, LAST, Span, check_moment, is_moment, is_number, is_stretch, is_window
from spanloops.spans import pairs_text, shifted, union


def uncovered(pairs):
    """The stretches of all moments that none of the pairs holds; the pairs are in one form."""
    begins = [FIRST] + [pair[1] for pair in pairs]
    ends = [pair[0] for pair in pairs] + [LAST]
    # Only at an open end of the pairs do the two edges coincide.
    return [(begin, end) for begin, end in zip(begins, ends) if begin < end]


class Spread:
    """The moments that some of the spans holds."""

    def __init__(self, *spans):
        for index, span in enumerate(spans):
            if not isinstance(span, Span):
                raise BadItem(index)
        self.pairs = tuple(union([span.pair for span in spans]))

    @staticmethod
    def of(spans):
        """The spread of a list of stretches."""
        made = [Span(begin, end) for begin, end in union(spans)]
        return Spread(*made)

    @property
    def hull(self):
        """The first begin and the last end, None without a moment."""
        if not self.pairs:
            return None
        return (self.pairs[0][0], self.pairs[-1][1])

    @property
    def duration(self):
        """The number of moments, None with an open-ended stretch."""
        if any([begin == FIRST or end == LAST for begin, end in self.pairs]):
            return None
        return sum([end - begin for begin, end in self.pairs])

    def next_in(self, moment):
        """The least moment of the spread that is not less than this one, or None."""
        check_moment(moment)
        for begin, end in self.pairs:
            if moment < end:
                return max(begin, moment)
        return None

    def next_out(self, moment):
        """The least moment not less than this one that the spread does not have, or None."""
        check_moment(moment)
        for begin, end in self.pairs:
            if begin <= moment < end:
                return None if end == LAST else end
        return moment

    def gaps(self, window=None):
        """Yields the stretches of what the window, or else the hull, has and the spread does not have."""
        if window is not None and not is_window(window):
            raise BadWindow(window)
        bounds = self.hull if window is None else window
        if bounds is None:
            return
        free = Spread.of([bounds]) - self
        for pair in free.pairs:
            yield pair

    def __eq__(self, other):
        return isinstance(other, Spread) and self.pairs == other.pairs

    def __len__(self):
        return len(self.pairs)

    def __bool__(self):
        return bool(self.pairs)

    def __iter__(self):
        return iter(self.pairs)

    def __getitem__(self, at):
        if not 0 <= at < len(self.pairs):
            raise NoSpan(at)
        return self.pairs[at]

    def __contains__(self, x):
        if isinstance(x, (Span, Spread)):
            return not spread_of(x) - self
        if is_stretch(x):
            return not Spread.of([x]) - self
        return is_moment(x) and any([begin <= x < end for begin, end in self.pairs])

    def __str__(self):
        return str(pairs_text(self.pairs))

    def __invert__(self):
        return Spread.of(uncovered(self.pairs))

    def __or__(self, other):
        if not isinstance(other, (Span, Spread)):
            return NotImplemented
        return Spread.of(self.pairs + spread_of(other).pairs)

    def __ror__(self, other):
        if not isinstance(other, Span):
            return NotImplemented
        return self | other

    def __and__(self, other):
        if not isinstance(other, (Span, Spread)):
            return NotImplemented
        return ~(~self | ~spread_of(other))

    def __rand__(self, other):
        if not isinstance(other, Span):
            return NotImplemented
        return self & other

    def __sub__(self, other):
        if is_number(other):
            return self + -other
        if not isinstance(other, (Span, Spread)):
            return NotImplemented
        return ~(~self | other)

    def __rsub__(self, other):
        if not isinstance(other, Span):
            return NotImplemented
        return Spread(other) - self

    def __xor__(self, other):
        if not isinstance(other, (Span, Spread)):
            return NotImplemented
        return (self - other) | (spread_of(other) - self)

    def __rxor__(self, other):
        if not isinstance(other, Span):
            return NotImplemented
        return self ^ other

    def __add__(self, other):
        if not is_number(other):
            return NotImplemented
        return Spread.of([shifted(pair, other) for pair in self.pairs])

    def __radd__(self, other):
        if not is_number(other):
            return NotImplemented
        return self + other


def spread_of(held):
    """A Span or a Spread as a Spread."""
    if isinstance(held, Span):
        return Spread(held)
    return held
