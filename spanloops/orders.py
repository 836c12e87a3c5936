"""The ten orders: which items a loop reads, and how it sorts them."""

from spanloops.errors import BadItem, BadOrder
from spanloops.spans import FAR, check_stretches, is_number

STRETCH_ORDERS = ("any", "begin", "begin end", "begin back", "end", "end begin", "end back")
BEGIN_ORDERS = ("begin", "begin end", "begin back")
EVENT_ORDERS = ("at", "at in", "at out")

SORT_EDGES = {
    "any": (),
    "begin": ("begin",),
    "begin end": ("begin", "end"),
    "begin back": ("begin", "end"),
    "end": ("end",),
    "end begin": ("begin", "end"),
    "end back": ("begin", "end"),
    "at": ("at",),
    "at in": ("at",),
    "at out": ("at",),
}


def reads_events(order):
    """Whether a loop of this order reads events."""
    return order in EVENT_ORDERS


def check_order(order):
    """Raises BadOrder of any object that is not one of the ten orders."""
    if order not in STRETCH_ORDERS and order not in EVENT_ORDERS:
        raise BadOrder(order)


def is_event(value):
    """Whether any object is an event."""
    if not isinstance(value, tuple) or len(value) != 2:
        return False
    word, at = value
    return word in ("in", "out") and is_number(at) and -FAR <= at <= FAR


def check_events(events):
    """Raises BadItem of the first member of the list that is not an event."""
    for index, event in enumerate(events):
        if not is_event(event):
            raise BadItem(index)


def check_items(order, items):
    """Raises BadItem of the first member of the list that a loop of this order does not read."""
    if reads_events(order):
        check_events(items)
    else:
        check_stretches(items)


def stretch_key(order, begin, end):
    """By what a stretch is sorted; an edge that does not sort may be None."""
    if order == "begin":
        return (begin, 0)
    if order == "begin end":
        return (begin, end)
    if order == "begin back":
        return (begin, -end)
    if order == "end":
        return (end, 0)
    if order == "end begin":
        return (end, begin)
    if order == "end back":
        return (end, -begin)
    return (0, 0)


def event_key(order, word, at):
    """By what an event is sorted."""
    if order == "at in":
        return (at, 0 if word == "in" else 1)
    if order == "at out":
        return (at, 0 if word == "out" else 1)
    return (at, 0)


def sort_key(order, item):
    """By what an item is sorted."""
    one, other = item
    if reads_events(order):
        return event_key(order, one, other)
    return stretch_key(order, one, other)


def sorted_items(order, items):
    """The items as a loop of this order reads them."""
    return sorted(items, key=lambda item: sort_key(order, item))


def is_weaker(order, other):
    """Whether this order is weaker than another one of the same items."""
    # The longer orders begin with the names of the shorter ones.
    return order != other and (order == "any" or other.startswith(order))


def weakest(orders, is_right):
    """Those of the orders that are right, without those than which another right one is weaker.

    The weaker orders stand first. A stronger one needs not be asked when a weaker one is right.
    """
    found = []
    for order in orders:
        if not any([is_weaker(other, order) for other in found]) and is_right(order):
            found.append(order)
    return tuple(found)
