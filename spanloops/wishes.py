"""Wishes: how often each moment is to be put out, what is to be answered, which tally is wanted."""

from spanloops.counting import counts_at, has_clash, has_cover, insides_at, is_counted, misfit, touches, turns
from spanloops.counting import wanted_times
from spanloops.errors import BadWish, NoWindow, Unfit
from spanloops.orders import check_events, sorted_items
from spanloops.runs import check_window
from spanloops.spans import FIRST, check_ends, check_moment, check_stretches, is_moment, union

TIMES = ("some", "none", "all", "one", "two", "each", "inside")
FORMS = ("any", "full", "one", "cut")
ANSWERS = ("busy", "covered", "clash")
NUMBERS = ("all", "full", "left", "within", "touched", "pieces")


class Fault:
    """What is wrong with the result of a loop."""

    def __init__(self, kind, place, told, due):
        self.kind = kind
        self.place = place
        self.told = told
        self.due = due

    def __eq__(self, other):
        return (isinstance(other, Fault) and self.kind == other.kind and self.place == other.place
                and self.told == other.told and self.due == other.due)


class Wish:
    """What a loop is to do."""


def check_word(word, words):
    """Raises BadWish of any object that is not one of the words."""
    if word not in words:
        raise BadWish(word)


def check_need(wish, window):
    """Raises NoWindow if there is no window and the wish uses one."""
    if window is None and wish.uses_window:
        raise NoWindow(wish)


def result_for(wish, loop, items, window):
    """The result of a loop that the wish fits."""
    if not wish.fits(loop):
        raise Unfit(wish)
    result = loop(items, window)
    check_need(wish, window)
    return result


def broken_fault(result):
    """The fault of a run that breaks, None if it does not."""
    if result.broken is None:
        return None
    return Fault("broken", result.broken, None, None)


def wanted_at(wish, items, window, moments):
    """How often these moments, which ascend, are wanted for items in the order of the loop."""
    if wish.which == "inside":
        due = insides_at(items, moments)
    else:
        held = counts_at(items, moments, wish.ends)
        due = [wanted_times(wish.which, count, len(items)) for count in held]
    if not wish.within:
        return due
    return [one * other for one, other in zip(due, counts_at([window], moments, wish.ends))]


def telling_moments(wish, items, window, puts):
    """Moments of which one is the least that is put out too often or too seldom, if any is."""
    pairs = list(puts)
    if wish.within:
        pairs.append(window)
    if wish.which == "inside":
        changed = [at for _, at in items]
    else:
        changed = []
        pairs.extend(items)
    changed.extend([moment for moment, _ in turns(pairs, wish.ends)])
    changed.append(FIRST + 1)
    return [moment for moment in sorted(set(changed)) if is_moment(moment)]


def times_fault(wish, items, window, puts):
    """The fault of the least moment that is put out too often or too seldom, or None."""
    moments = telling_moments(wish, items, window, puts)
    counts = counts_at(puts, moments, wish.ends)
    for moment, told, due in zip(moments, counts, wanted_at(wish, items, window, moments)):
        if told < due:
            return Fault("lost", moment, told, due)
        if told > due:
            return Fault("extra" if due == 0 else "doubled", moment, told, due)
    return None


def form_fault(wish, window, puts):
    """The fault of the first pair that is not in the wished form, or None."""
    left = None if window is None else window[0]
    past = None
    for index, pair in enumerate(puts):
        kind = misfit(wish.form, pair, past, left, wish.ends)
        if kind is not None:
            return Fault(kind, index, pair, None)
        past = pair[1]
    return None


class Moments(Wish):
    """How often each moment is to be put out."""

    def __init__(self, which, *, within=False, form="one", ends="half"):
        check_word(which, TIMES)
        check_word(form, FORMS)
        check_ends(ends)
        self.which = which
        self.within = within
        self.form = form
        self.ends = ends

    @property
    def uses_window(self):
        """Whether the window matters."""
        return self.within or self.form == "cut"

    @property
    def wants_begins(self):
        """Whether the judge takes only loops whose order starts with begin."""
        return False

    def by(self, ends):
        """The same wish with these ends."""
        return Moments(self.which, within=self.within, form=self.form, ends=ends)

    def fits(self, loop):
        """Whether the loop reads what the wish is about."""
        return (loop.reads == "events") == (self.which == "inside")

    def fault_of(self, loop, items, window=None):
        """The fault of the loop for this list and window, or None."""
        result = result_for(self, loop, items, window)
        fault = broken_fault(result)
        if fault is None:
            fault = times_fault(self, sorted_items(loop.order, items), window, result.puts)
        if fault is None:
            fault = form_fault(self, window, result.puts)
        return fault

    def wanted(self, items, moment, window=None):
        """How often the moment is wanted."""
        if self.which == "inside":
            check_events(items)
        else:
            check_stretches(items)
        check_moment(moment)
        check_window(window)
        check_need(self, window)
        return wanted_at(self, items, window, [moment])[0]

    def __eq__(self, other):
        return (isinstance(other, Moments) and self.which == other.which and self.within == other.within
                and self.form == other.form and self.ends == other.ends)


class Answer(Wish):
    """Which answer is to be said."""

    def __init__(self, what, *, ends="half"):
        check_word(what, ANSWERS)
        check_ends(ends)
        self.what = what
        self.ends = ends

    @property
    def uses_window(self):
        """Whether the window matters."""
        return self.what in ("busy", "covered")

    @property
    def wants_begins(self):
        """Whether the judge takes only loops whose order starts with begin."""
        return self.what in ("covered", "clash")

    def by(self, ends):
        """The same wish with these ends."""
        return Answer(self.what, ends=ends)

    def fits(self, loop):
        """Whether the loop reads what the wish is about."""
        return loop.reads == "stretches"

    def wished(self, spans, window=None):
        """The wished answer."""
        check_stretches(spans)
        check_window(window)
        check_need(self, window)
        if self.what == "busy":
            return any([touches(span, window, self.ends) for span in spans])
        if self.what == "covered":
            return has_cover(spans, window, self.ends)
        return has_clash(spans, self.ends)

    def fault_of(self, loop, items, window=None):
        """The fault of the loop for this list and window, or None."""
        result = result_for(self, loop, items, window)
        due = self.wished(items, window)
        if result.broken is None and result.answer != due:
            return Fault("answer", None, result.answer, due)
        return broken_fault(result)

    def __eq__(self, other):
        return isinstance(other, Answer) and self.what == other.what and self.ends == other.ends


class Number(Wish):
    """Which tally is wished."""

    def __init__(self, what, *, ends="half"):
        check_word(what, NUMBERS)
        check_ends(ends)
        self.what = what
        self.ends = ends

    @property
    def uses_window(self):
        """Whether the window matters."""
        return self.what in ("left", "within", "touched")

    @property
    def wants_begins(self):
        """Whether the judge takes only loops whose order starts with begin."""
        return self.what == "pieces"

    def by(self, ends):
        """The same wish with these ends."""
        return Number(self.what, ends=ends)

    def fits(self, loop):
        """Whether the loop reads what the wish is about."""
        return loop.reads == "stretches"

    def wished(self, spans, window=None):
        """The wished tally."""
        check_stretches(spans)
        check_window(window)
        check_need(self, window)
        if self.what == "pieces":
            return len(union(spans, self.ends))
        return len([span for span in spans if is_counted(self.what, span, window, self.ends)])

    def fault_of(self, loop, items, window=None):
        """The fault of the loop for this list and window, or None."""
        result = result_for(self, loop, items, window)
        due = self.wished(items, window)
        if result.broken is None and result.tally != due:
            return Fault("number", None, result.tally, due)
        return broken_fault(result)

    def __eq__(self, other):
        return isinstance(other, Number) and self.what == other.what and self.ends == other.ends
