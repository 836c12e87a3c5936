"""Sweeps through the begins and ends of a list of stretches."""

from spanloops.errors import BadLevel, BadSweep
from spanloops.orders import STRETCH_ORDERS, sorted_items
from spanloops.spans import check_stretches, is_number

TIES = ("ends", "begins", "list")
DEFAULTS = ("any", "ends", False, False, False, False)


def check_sweep(options):
    """Raises BadSweep of the first name whose value, any object, is not one of its values."""
    for name, value in options:
        if name == "order":
            fits = value in STRETCH_ORDERS
        elif name == "ties":
            fits = value in TIES
        else:
            fits = isinstance(value, bool)
        if not fits:
            raise BadSweep(name)


def check_level(level):
    """Raises BadLevel of any object that is not a level for spans."""
    if not is_number(level) or not 1 <= level <= 4:
        raise BadLevel(level)


def change_key(ties, change):
    """By what a change is sorted."""
    edge, step = change
    if ties == "ends":
        return (edge, step)
    if ties == "begins":
        return (edge, -step)
    return (edge, 0)


def option_values(sweep):
    """The names of the options of a sweep, each with its value."""
    return (("order", sweep.order), ("ties", sweep.ties), ("settles", sweep.settles), ("skips", sweep.skips),
            ("glues", sweep.glues), ("drops", sweep.drops))


def levels_of(changes):
    """The level after each change."""
    levels = []
    level = 0
    for _, step in changes:
        level += step
        levels.append(level)
    return levels


def settled_only(told):
    """Of the readings, the last one for each edge."""
    later = told[1:] + [(None, 0)]
    return [one for one, other in zip(told, later) if one[0] != other[0]]


def peak_of(told):
    """The peak of some readings, or None."""
    greatest = max([0] + [level for _, level in told])
    if greatest == 0:
        return None
    begin = None
    for edge, level in told:
        if begin is None and level == greatest:
            begin = edge
        elif begin is not None and level < greatest:
            return (begin, edge, greatest)
    return None


def put_span(rows, span, sweep):
    """Does with a span that closes what the sweep does with it."""
    begin, end = span
    if sweep.drops and begin == end:
        return
    if sweep.glues and rows and rows[-1][1] == begin:
        rows[-1] = (rows[-1][0], end)
    else:
        rows.append(span)


def readings_of(sweep, spans):
    """The readings of a sweep, a list."""
    changes = sweep.changes(spans)
    told = [(edge, level) for (edge, _), level in zip(changes, levels_of(changes))]
    return settled_only(told) if sweep.settles else told


class Sweep:
    """How the changes of a list are sorted, and what is made of the levels."""

    def __init__(self, *, order="any", ties="ends", settles=False, skips=False, glues=False, drops=False):
        self.order = order
        self.ties = ties
        self.settles = settles
        self.skips = skips
        self.glues = glues
        self.drops = drops
        check_sweep(option_values(self))

    def by(self, order):
        """The same sweep with this order."""
        return Sweep(order=order, ties=self.ties, settles=self.settles, skips=self.skips, glues=self.glues,
                     drops=self.drops)

    def changes(self, spans):
        """The changes in the order in which the sweep goes through them."""
        check_stretches(spans)
        taken = [span for span in spans if not self.skips or span[0] != span[1]]
        found = []
        for begin, end in sorted_items(self.order, taken):
            found.append((begin, 1))
            found.append((end, -1))
        return sorted(found, key=lambda change: change_key(self.ties, change))

    def readings(self, spans):
        """Yields the edges with the levels there."""
        for told in readings_of(self, spans):
            yield told

    def peak(self, spans):
        """Where the greatest level is first: (begin, end, level), or None."""
        return peak_of(readings_of(self, spans))

    def spans_at(self, spans, level, *, exactly=False):
        """The spans in which the level is at least this one, or exactly this one."""
        told = readings_of(self, spans)
        check_level(level)
        rows = []
        begin = None
        for edge, reached in told:
            on = reached == level if exactly else reached >= level
            if on and begin is None:
                begin = edge
            elif not on and begin is not None:
                put_span(rows, (begin, edge), self)
                begin = None
        return rows

    def __eq__(self, other):
        return (isinstance(other, Sweep) and self.order == other.order and self.ties == other.ties
                and self.settles == other.settles and self.skips == other.skips and self.glues == other.glues
                and self.drops == other.drops)

    def __repr__(self):
        shown = [f"{name}={value!r}" for (name, value), usual in zip(option_values(self), DEFAULTS)
                 if value != usual]
        return f"Sweep({', '.join(shown)})"

    def __call__(self, spans):
        return max([0] + [level for _, level in readings_of(self, spans)])
