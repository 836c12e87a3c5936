"""What the document says, once more and as plainly as possible: every moment is looked at, every list is tried.

Nothing here uses the package but its constants and, for their attributes, its loops and wishes.
"""

import itertools

from spanloops.spans import FIRST, LAST

KEYS = {
    "any": lambda item: 0,
    "begin": lambda item: item[0],
    "begin end": lambda item: item,
    "begin back": lambda item: (item[0], -item[1]),
    "end": lambda item: item[1],
    "end begin": lambda item: (item[1], item[0]),
    "end back": lambda item: (item[1], -item[0]),
    "at": lambda item: item[1],
    "at in": lambda item: (item[1], item[0] != "in"),
    "at out": lambda item: (item[1], item[0] != "out"),
}


class Unset(Exception):
    pass


class Machine:
    """A run by the words of [7] to [12], with what each step does."""

    def __init__(self, loop, items, window):
        self.names = {"first": FIRST, "last": LAST, "low": None, "high": None, "mark": None}
        if window is not None:
            self.names["left"], self.names["right"] = window
        self.puts, self.answer, self.tally, self.broken = [], None, 0, None
        self.state, self.steps = "reading", []
        self.part("ahead", loop.ahead, None)
        for item in sorted(items, key=KEYS[loop.order]):
            if self.state == "reading":
                self.part("each", loop.each, item)
        self.before = (self.state, dict(self.names), list(self.puts))
        if self.state in ("reading", "stopped"):
            self.part("behind", loop.behind, None)

    def value(self, term):
        if isinstance(term, tuple):
            return {"min": min, "max": max}[term[0]](self.value(term[1]), self.value(term[2]))
        if self.names[term] is None:
            raise Unset
        return self.names[term]

    def holds(self, test, item):
        if len(test) == 1:
            return item[0] == test[0]
        if test[0] == "set":
            return self.names[test[1]] is not None
        if test[0] == "unset":
            return self.names[test[1]] is None
        one, other = self.value(test[1]), self.value(test[2])
        return {"<": one < other, "<=": one <= other, "==": one == other, "!=": one != other}[test[0]]

    def part(self, word, rules, item):
        if item is not None:
            self.names.update({"at": item[1]} if isinstance(item[0], str) else {"begin": item[0], "end": item[1]})
        done, number = len(self.puts), 0
        try:
            for count, rule in enumerate(rules, 1):
                number = count
                if all(self.holds(test, item) for test in rule.tests):
                    self.deeds(rule.deeds)
                    break
                number = 0
        except Unset:
            self.state, self.broken = "broken", (word, number)
        registers = tuple(self.names[name] for name in ("low", "high", "mark"))
        self.steps.append((word, item, number, registers, tuple(self.puts[done:])))

    def deeds(self, deeds):
        for deed in deeds:
            if deed[0] == "keep":
                self.names[deed[1]] = self.value(deed[2])
            elif deed[0] == "drop":
                self.names[deed[1]] = None
            elif deed[0] == "put":
                self.puts.append((self.value(deed[1]), self.value(deed[2])))
            elif deed[0] == "add":
                self.tally += deed[1]
            elif deed[0] == "say":
                self.answer, self.state = deed[1], "said"
            else:
                self.state = "stopped"


def holds(pair, moment, ends):
    return pair[0] <= moment < pair[1] if ends == "half" else pair[0] <= moment <= pair[1]


def empty(pair, ends):
    return pair[0] >= pair[1] if ends == "half" else pair[0] > pair[1]


def union(spans, ends):
    rows = []
    for begin, end in sorted(span for span in spans if not empty(span, ends)):
        if rows and begin <= rows[-1][1]:
            rows[-1] = (rows[-1][0], max(rows[-1][1], end))
        else:
            rows.append((begin, end))
    return rows


def wanted(wish, order, items, moment, window):
    """How often a Moments wants the moment."""
    if wish.within and not holds(window, moment, wish.ends):
        return 0
    if wish.which == "inside":
        words = [word for word, at in sorted(items, key=KEYS[order]) if at <= moment]
        return int(words[-1:] == ["in"])
    many = sum(holds(item, moment, wish.ends) for item in items)
    return {"some": int(many > 0), "none": int(many == 0), "all": int(many == len(items)), "one": int(many == 1),
            "two": int(many >= 2), "each": many}[wish.which]


def common(span, window, ends):
    begin, end = max(span[0], window[0]), min(span[1], window[1])
    return begin < end if ends == "half" else begin <= end


def wished(wish, spans, window):
    """What an Answer or a Number wishes."""
    if wish.what == "busy":
        return any(common(span, window, wish.ends) for span in spans)
    if wish.what == "covered":
        return any(begin <= window[0] and end >= window[1] for begin, end in union(spans, wish.ends))
    if wish.what == "clash":
        return any(common(one, other, wish.ends) for one, other in itertools.combinations(spans, 2))
    if wish.what == "all":
        return len(spans)
    if wish.what == "full":
        return sum(not empty(span, wish.ends) for span in spans)
    if wish.what == "left":
        return sum(holds(span, window[0], wish.ends) for span in spans)
    if wish.what == "within":
        return sum(begin >= window[0] and end <= window[1] for begin, end in spans)
    if wish.what == "touched":
        return sum(common(span, window, wish.ends) for span in spans)
    return len(union(spans, wish.ends))


def moments_near(pairs):
    """Every moment at which something may change, and those beside it."""
    found = {FIRST + 1, LAST - 1}
    for pair in pairs:
        for edge in pair:
            found.update(moment for moment in (edge - 1, edge, edge + 1) if FIRST < moment < LAST)
    return sorted(found)


def form_kind(wish, index, puts, window):
    begin, end = puts[index]
    if wish.form != "any" and empty((begin, end), wish.ends):
        return "empty"
    if wish.form == "one" and index and begin <= puts[index - 1][1]:
        return "order" if begin < puts[index - 1][1] else "touching"
    if wish.form == "cut" and begin < window[0] < end:
        return "crossing"
    return None


def fault(loop, wish, items, window):
    """The fault as a tuple (kind, place, told, due), or None."""
    run = Machine(loop, items, window)
    if run.broken:
        return ("broken", run.broken, None, None)
    if hasattr(wish, "what"):
        due = wished(wish, items, window)
        if isinstance(due, bool):
            return None if run.answer is due else ("answer", None, run.answer, due)
        return None if run.tally == due else ("number", None, run.tally, due)
    pairs = run.puts + ([] if window is None else [window])
    pairs += [(item[1], item[1]) if isinstance(item[0], str) else item for item in items]
    for moment in moments_near(pairs):
        told = sum(holds(pair, moment, wish.ends) for pair in run.puts)
        due = wanted(wish, loop.order, items, moment, window)
        if told != due:
            return ("lost" if told < due else "doubled" if due else "extra", moment, told, due)
    for index, pair in enumerate(run.puts):
        kind = form_kind(wish, index, run.puts, window)
        if kind:
            return (kind, index, pair, None)
    return None


def situation(loop, wish, spans, window, moment):
    """The situation of [20]."""
    state, names, puts = Machine(loop, spans, window).before
    used = set()
    for rule in loop.ahead + loop.each + loop.behind:
        used.update(rule.names)
    needs_window = used & {"left", "right"} or wish.within or wish.form == "cut"
    rows = [(name, names[name]) for name in ("first", "last") if name in used]
    rows += [(name, names[name]) for name in ("left", "right") if needs_window]
    rows += [("moment", moment)]
    rows += [(name, names[name]) for name in ("low", "high", "mark") if names[name] is not None]
    if spans:
        begin, end = sorted(spans, key=KEYS[loop.order])[-1]
        both = " " in loop.order
        rows += [("begin", begin)] if both or loop.order == "begin" else []
        rows += [("end", end)] if both or loop.order == "end" else []
    values = {value for _, value in rows}
    ranks = tuple((name, sum(other < value for other in values)) for name, value in rows)
    many = sum(holds(span, moment, wish.ends) for span in spans)
    put = sum(holds(pair, moment, wish.ends) for pair in puts)
    if wish.which == "each":
        return (state, ranks, (put if wish.within and not holds(window, moment, wish.ends) else put - many,))
    if wish.which == "all":
        seen = int(many < len(spans))
    else:
        seen = min(many, 2 if wish.which in ("one", "two") else 1)
    return (state, ranks, (seen, min(put, 2)))


def all_items(events, many):
    """All items over the edges 0, 2, .. and the open ends."""
    edges = list(range(0, 2 * many, 2))
    if events:
        return [(word, at) for at in edges for word in ("in", "out")]
    edges = [FIRST] + edges + [LAST]
    return [(begin, end) for begin in edges[:-1] for end in edges[1:] if begin <= end]


def all_windows(many):
    edges = [FIRST] + list(range(0, 2 * many, 2)) + [LAST]
    return list(itertools.combinations(edges, 2))


def fewest(loop, wish, most, many, windows):
    """The least number of items, up to `most`, of a list over so many edges with a fault; None if there is none."""
    items = all_items(loop.reads == "events", many)
    for count in range(most + 1):
        for rows in itertools.product(items, repeat=count):
            for window in windows:
                if fault(loop, wish, list(rows), window) is not None:
                    return count
    return None


def parting(one, other, items, window, ends):
    """How two loops part on a list and a window: (kind, place, told), or None."""
    runs = [Machine(loop, items, window) for loop in (one, other)]
    for kind, told in [
        ("broken", tuple(run.broken is not None for run in runs)),
        ("answer", tuple(run.answer for run in runs)),
        ("number", tuple(run.tally for run in runs)),
    ]:
        if repr(told[0]) != repr(told[1]):
            return (kind, None, told)
    for moment in moments_near(runs[0].puts + runs[1].puts):
        told = tuple(sum(holds(pair, moment, ends) for pair in run.puts) for run in runs)
        if told[0] != told[1]:
            return ("moment", moment, told)
    return None


def part_by(one, other, ends, most, many, windows):
    """The least number of items, up to `most`, of a list over so many edges on which two loops part; or None."""
    items = all_items(one.reads == "events", many)
    for count in range(most + 1):
        for rows in itertools.product(items, repeat=count):
            if any(parting(one, other, list(rows), window, ends) for window in windows):
                return count
    return None


def changes(sweep, spans):
    """The changes of a sweep, by [26]."""
    rows = sorted([span for span in spans if not (sweep.skips and span[0] == span[1])], key=KEYS[sweep.order])
    found = [change for begin, end in rows for change in ((begin, 1), (end, -1))]
    first = {"ends": -1, "begins": 1, "list": None}[sweep.ties]
    return sorted(found, key=lambda change: (change[0], first is not None and change[1] != first))


def readings(sweep, spans):
    """The readings of a sweep, by [27]."""
    found = changes(sweep, spans)
    told = [(edge, sum(step for _, step in found[:at + 1])) for at, (edge, _) in enumerate(found)]
    if sweep.settles:
        told = [row for at, row in enumerate(told) if row[0] not in [edge for edge, _ in told[at + 1:]]]
    return told


def peak(sweep, spans):
    """The peak of a sweep, by [28]."""
    told = readings(sweep, spans)
    greatest = max([level for _, level in told], default=0)
    if greatest <= 0:
        return None
    at = [level for _, level in told].index(greatest)
    return (told[at][0], next(edge for edge, level in told[at:] if level < greatest), greatest)


def spans_at(sweep, spans, level, exactly):
    """The spans of a sweep, by [29]."""
    rows, begin = [], None
    for edge, reached in readings(sweep, spans):
        on = reached == level or (reached > level and not exactly)
        if on:
            begin = edge if begin is None else begin
        elif begin is not None:
            if sweep.drops and begin == edge:
                pass
            elif sweep.glues and rows and rows[-1][1] == begin:
                rows.append((rows.pop()[0], edge))
            else:
                rows.append((begin, edge))
            begin = None
    return rows


def depth(spans, moment, ends):
    return sum(holds(span, moment, ends) for span in spans)
