"""What a search follows of a wish, from item to item.

A watch keeps a memory, a small tuple; `start` is the first one. `gain` tells what one step of a
run, and the item of this step (None if there is none), mean for it. `after` is the memory after
such a gain. `fails` tells whether the wish is not met when a run ends with this memory. `extra`
is the name of an edge that is followed besides those that the loop knows, or None.
"""

from spanloops.counting import covers, is_counted, misfit, touches, wanted_times
from spanloops.spans import is_empty
from spanloops.wishes import Answer, Moments


def window_of(edges):
    """The window, with None for its edges if there is none."""
    return (edges.get("left"), edges.get("right"))


def times_put(run, ends):
    """How often the moment was put out."""
    moment = run.edges["moment"]
    return len([pair for pair in run.puts if covers(pair, moment, ends)])


def is_beside(wish, edges):
    """Whether the moment is not wanted because the window does not hold it."""
    return wish.within and not covers(window_of(edges), edges["moment"], wish.ends)


class TimesWatch:
    """Follows how many stretches hold a moment, and how often it is put out."""

    def __init__(self, wish):
        self.wish = wish
        self.extra = "moment"
        self.start = (0, 0)

    def gain(self, run, item):
        """Whether the item counts, 1 or 0, and how often the moment is put out."""
        times = times_put(run, self.wish.ends)
        if item is None:
            return (0, times)
        # For "all", those that do not hold the moment count.
        held = covers(item, run.edges["moment"], self.wish.ends)
        return (1 if held != (self.wish.which == "all") else 0, times)

    def after(self, memory, gain):
        """The memory after a gain."""
        most = 2 if self.wish.which in ("one", "two") else 1
        return (min(memory[0] + gain[0], most), min(memory[1] + gain[1], 2))

    def fails(self, edges, memory):
        """Whether the moment is put out too often or too seldom."""
        seen, put = memory
        if is_beside(self.wish, edges):
            return put != 0
        if self.wish.which == "all":
            return put != 1 - seen
        return put != wanted_times(self.wish.which, seen, None)


class EachWatch:
    """Follows how much oftener a moment is put out than stretches hold it."""

    def __init__(self, wish):
        self.wish = wish
        self.extra = "moment"
        self.start = (0,)

    def gain(self, run, item):
        """How often the moment is put out, less one if the item holds it."""
        times = times_put(run, self.wish.ends)
        if item is None or is_beside(self.wish, run.edges):
            return times
        return times - (1 if covers(item, run.edges["moment"], self.wish.ends) else 0)

    def after(self, memory, gain):
        """The memory after a gain."""
        return (memory[0] + gain,)

    def fails(self, edges, memory):
        """Whether the moment is put out too often or too seldom."""
        return memory[0] != 0


class InsideWatch:
    """Follows whether the last event up to a moment is an "in", and how often the moment is put out."""

    def __init__(self, wish):
        self.wish = wish
        self.extra = "moment"
        self.start = (0, 0)

    def gain(self, run, item):
        """What the event makes of the first number, None for nothing, and how often the moment is put out."""
        times = times_put(run, self.wish.ends)
        if item is None or item[1] > run.edges["moment"]:
            return (None, times)
        return (1 if item[0] == "in" else 0, times)

    def after(self, memory, gain):
        """The memory after a gain."""
        inside = memory[0] if gain[0] is None else gain[0]
        return (inside, min(memory[1] + gain[1], 2))

    def fails(self, edges, memory):
        """Whether the moment is put out too often or too seldom."""
        inside, put = memory
        return put != (0 if is_beside(self.wish, edges) else inside)


class FormWatch:
    """Follows whether some pair is out of form; for one form with the end of the last pair."""

    def __init__(self, wish):
        self.wish = wish
        self.extra = "past" if wish.form == "one" else None
        self.start = (0,)

    def gain(self, run, item):
        """Whether a pair that is put out is out of form, 1 or 0."""
        left, _ = window_of(run.edges)
        wrong = 0
        for pair in run.puts:
            if misfit(self.wish.form, pair, run.edges.get("past"), left, self.wish.ends) is not None:
                wrong = 1
            run.edges["past"] = pair[1]
        return wrong

    def after(self, memory, gain):
        """The memory after a gain."""
        return (max(memory[0], gain),)

    def fails(self, edges, memory):
        """Whether some pair is out of form."""
        return memory[0] != 0


def widen(edges, end):
    """Makes the greatest end so far at least this one."""
    edges["reach"] = end if edges["reach"] is None else max(edges["reach"], end)


class AnswerWatch:
    """Follows whether the wished answer is True, and what is said; for two of them with the greatest end."""

    def __init__(self, wish):
        self.wish = wish
        self.extra = None if wish.what == "busy" else "reach"
        self.start = (0, None)

    def gain(self, run, item):
        """Whether the item makes the wished answer True, 1 or 0, and what is said."""
        found = item is not None and self.decides(run.edges, item)
        return (1 if found else 0, run.answer)

    def decides(self, edges, item):
        """Whether the wished answer is True at the latest with this item."""
        if self.wish.what == "busy":
            return touches(item, window_of(edges), self.wish.ends)
        if is_empty(item, self.wish.ends):
            return False
        reach = edges["reach"]
        begin, end = item
        if self.wish.what == "clash":
            widen(edges, end)
            return reach is not None and not is_empty((begin, reach), self.wish.ends)
        # Only those stretches of the union matter that begin in time; behind a gap no later one does.
        left, right = window_of(edges)
        if begin <= left or (reach is not None and begin <= reach):
            widen(edges, end)
        return edges["reach"] is not None and edges["reach"] >= right

    def after(self, memory, gain):
        """The memory after a gain."""
        return (max(memory[0], gain[0]), memory[1] if gain[1] is None else gain[1])

    def fails(self, edges, memory):
        """Whether another answer is said, or none."""
        return memory[1] != (memory[0] == 1)


class NumberWatch:
    """Follows how much greater the tally is than the wished one; for pieces with the greatest end."""

    def __init__(self, wish):
        self.wish = wish
        self.extra = "reach" if wish.what == "pieces" else None
        self.start = (0,)

    def gain(self, run, item):
        """What the tally gains on the wished one."""
        if item is None:
            return run.tally
        if self.wish.what == "pieces":
            counted = self.begins_piece(run.edges, item)
        else:
            counted = is_counted(self.wish.what, item, window_of(run.edges), self.wish.ends)
        return run.tally - (1 if counted else 0)

    def begins_piece(self, edges, item):
        """Whether the item begins a new stretch of the union."""
        if is_empty(item, self.wish.ends):
            return False
        reach = edges["reach"]
        widen(edges, item[1])
        return reach is None or item[0] > reach

    def after(self, memory, gain):
        """The memory after a gain."""
        return (memory[0] + gain,)

    def fails(self, edges, memory):
        """Whether the tally is another one."""
        return memory[0] != 0


def times_watch(wish):
    """The watch for how often the moments are put out."""
    if wish.which == "each":
        return EachWatch(wish)
    if wish.which == "inside":
        return InsideWatch(wish)
    return TimesWatch(wish)


def watches(wish):
    """The watches that decide a wish together; for a Moments the one with the moment is the last."""
    if isinstance(wish, Answer):
        return [AnswerWatch(wish)]
    if not isinstance(wish, Moments):
        return [NumberWatch(wish)]
    if wish.form == "any":
        return [times_watch(wish)]
    return [FormWatch(wish), times_watch(wish)]
