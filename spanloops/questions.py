"""Questions about loops: where two of them part, which orders one needs, which ends it bears."""

from spanloops.counting import counts_at, turns
from spanloops.errors import BadOrder, TooWide, Unfit
from spanloops.judging import check_judged, judge
from spanloops.orders import BEGIN_ORDERS, EVENT_ORDERS, SORT_EDGES, STRETCH_ORDERS, weakest
from spanloops.pairs import PairWalk
from spanloops.spans import FIRST, Ends, check_ends, is_moment
from spanloops.traces import example_of
from spanloops.walks import search


class Parting:
    """A list on which two loops part, and what they do there."""

    def __init__(self, witness, window, kind, place, told):
        self.witness = witness
        self.window = window
        self.kind = kind
        self.place = place
        self.told = told


def check_pair(one, other, ends):
    """Raises the error of two loops that cannot be compared."""
    check_ends(ends)
    if other.order != one.order:
        raise BadOrder(other.order)
    window = 2 if one.uses_window or other.uses_window else 0
    if len(one.registers) + len(other.registers) + window + len(SORT_EDGES[one.order]) > 5:
        raise TooWide(5)


def differing_moment(puts, others, ends):
    """The least moment that is not held equally often by both lists of pairs, with both counts; or None."""
    changed = [FIRST + 1] + [moment for moment, _ in turns(puts + others, ends)]
    moments = [moment for moment in sorted(set(changed)) if is_moment(moment)]
    for moment, told, due in zip(moments, counts_at(puts, moments, ends), counts_at(others, moments, ends)):
        if told != due:
            return moment, (told, due)
    return None


def parting_at(one, other, items, window, ends):
    """How two loops part on a list and a window, where they do."""
    result = one(items, window)
    against = other(items, window)
    breaks = (result.broken is not None, against.broken is not None)
    if breaks[0] != breaks[1]:
        return Parting(items, window, "broken", None, breaks)
    if result.answer != against.answer:
        return Parting(items, window, "answer", None, (result.answer, against.answer))
    if result.tally != against.tally:
        return Parting(items, window, "number", None, (result.tally, against.tally))
    place, told = differing_moment(result.puts, against.puts, ends)
    return Parting(items, window, "moment", place, told)


def parting(one, other, *, ends="half"):
    """A list with the fewest items on which two loops part, None if they are alike."""
    check_pair(one, other, ends)
    walk = PairWalk(one, other, ends)
    links, node = search(walk, None)
    if node is None:
        return None
    items, window, _ = example_of(walk, links, node)
    return parting_at(one, other, items, window, ends)


def alike(one, other, *, ends="half"):
    """Whether two loops part on no list and no window."""
    return parting(one, other, ends=ends) is None


def orders_asked(loop, wish):
    """The orders by which a loop may be asked to be right for a wish."""
    if wish.wants_begins:
        return BEGIN_ORDERS
    return EVENT_ORDERS if loop.reads == "events" else STRETCH_ORDERS


def needs(loop, wish):
    """The weakest orders by which the loop is right for the wish."""
    if not wish.fits(loop):
        raise Unfit(wish)
    window = 2 if loop.uses_window or wish.uses_window else 0
    if len(loop.registers) + window > 2:
        raise TooWide(2)
    return weakest(orders_asked(loop, wish), lambda order: judge(loop.by(order), wish).right)


def bears(loop, wish):
    """The ends with which the loop is right for the wish."""
    check_judged(loop, wish)
    return tuple([ends for ends in (Ends.HALF, Ends.SHUT) if judge(loop, wish.by(ends)).right])
