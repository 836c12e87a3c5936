"""What wishes count: moments held by pairs of edges, stretches of a kind, pairs that are out of form."""

from spanloops.spans import FIRST, Ends, is_empty, union


def covers(pair, moment, ends):
    """Whether a pair holds a moment, or in its place any edge."""
    begin, end = pair
    if ends == Ends.SHUT:
        return begin <= moment <= end
    return begin <= moment < end


def touches(span, window, ends):
    """Whether a stretch and the window have a moment in common."""
    return not is_empty((max(span[0], window[0]), min(span[1], window[1])), ends)


def turns(pairs, ends):
    """The changes of how many pairs hold a moment, tuples (moment, step), ascending; some at no moment."""
    found = []
    for begin, end in pairs:
        if not is_empty((begin, end), ends):
            found.append((begin, 1))
            found.append((end + 1 if ends == Ends.SHUT else end, -1))
    return sorted(found)


def counts_at(pairs, moments, ends):
    """How many of the pairs hold each of these moments, which ascend."""
    changes = turns(pairs, ends)
    counts = []
    passed = 0
    many = 0
    for moment in moments:
        while passed < len(changes) and changes[passed][0] <= moment:
            many += changes[passed][1]
            passed += 1
        counts.append(many)
    return counts


def insides_at(events, moments):
    """Whether the last event up to each of these moments is an "in", 1 or 0; both lists ascend."""
    told = []
    passed = 0
    for moment in moments:
        while passed < len(events) and events[passed][1] <= moment:
            passed += 1
        told.append(1 if passed > 0 and events[passed - 1][0] == "in" else 0)
    return told


def wanted_times(which, held, many):
    """How often a moment is wanted that so many of so many stretches hold."""
    if which == "each":
        return held
    if which == "some":
        told = held > 0
    elif which == "none":
        told = held == 0
    elif which == "all":
        told = held == many
    elif which == "one":
        told = held == 1
    else:
        told = held > 1
    return 1 if told else 0


def misfit(form, pair, past, left, ends):
    """What is wrong with a pair that is put out when the last one has the end `past`, or None."""
    begin, end = pair
    if form == "any":
        return None
    if is_empty(pair, ends):
        return "empty"
    if form == "one" and past is not None and begin < past:
        return "order"
    if form == "one" and past is not None and begin == past:
        return "touching"
    if form == "cut" and begin < left < end:
        return "crossing"
    return None


def is_counted(what, span, window, ends):
    """Whether a stretch is one of those that a Number counts one by one."""
    begin, end = span
    if what == "full":
        return not is_empty(span, ends)
    if what == "left":
        return covers(span, window[0], ends)
    if what == "within":
        return begin >= window[0] and end <= window[1]
    if what == "touched":
        return touches(span, window, ends)
    return True


def has_clash(spans, ends):
    """Whether some moment is held by two of the stretches."""
    # Every stretch ends later than FIRST, so this is no end yet.
    reach = FIRST
    for begin, end in sorted([span for span in spans if not is_empty(span, ends)]):
        if reach > FIRST and not is_empty((begin, reach), ends):
            return True
        reach = max(reach, end)
    return False


def has_cover(spans, window, ends):
    """Whether one stretch of the union goes from the left of the window to its right, or beyond."""
    left, right = window
    return any([begin <= left and end >= right for begin, end in union(spans, ends)])
