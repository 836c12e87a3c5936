"""Whether a loop is right for a wish, decided for all lists; situations and their tables."""

from spanloops.errors import BadOrder, NoRow, TooWide, Unfit
from spanloops.loops import check_call, run_over
from spanloops.orders import BEGIN_ORDERS, SORT_EDGES, sorted_items
from spanloops.runs import Run
from spanloops.spans import check_moment, is_number
from spanloops.traces import example_of
from spanloops.walks import Walk, ranked, search, slot_names
from spanloops.watches import times_watch, watches
from spanloops.wishes import Moments, check_need


class Verdict:
    """Whether a loop is right for a wish, and what shows it."""

    def __init__(self, right, witness, window, fault, table):
        self.right = right
        self.witness = witness
        self.window = window
        self.fault = fault
        self.table = table

    def __bool__(self):
        return bool(self.right)


def named(names, ranks):
    """The ranks that are there, each with its name."""
    return tuple([(name, rank) for name, rank in zip(names, ranks) if rank is not None])


def is_ranks(value):
    """Whether any object is a tuple of names with ranks."""
    if not isinstance(value, tuple):
        return False
    for pair in value:
        if not isinstance(pair, tuple) or len(pair) != 2:
            return False
        if not isinstance(pair[0], str) or not is_number(pair[1]):
            return False
    return True


def is_situation(value):
    """Whether any object has the form of a situation, with integers and not True or False in it."""
    if not isinstance(value, tuple) or len(value) != 3:
        return False
    state, ranks, counts = value
    if not isinstance(state, str) or not is_ranks(ranks) or not isinstance(counts, tuple):
        return False
    return all([is_number(count) for count in counts])


class Table:
    """The situations of all lists, windows and moments, for a loop that is right."""

    def __init__(self, walk, links):
        self.walk = walk
        self.links = links
        self.nodes = {}
        for node in links:
            (state, ranks, _), counts = node
            self.nodes[(state, named(walk.slots, ranks), counts)] = node
        self.ascending = tuple(sorted(list(self.nodes)))

    @property
    def rows(self):
        """The situations, ascending."""
        return self.ascending

    def example(self, row):
        """A list, a window and a moment with this situation."""
        if row not in self:
            raise NoRow(row)
        return example_of(self.walk, self.links, self.nodes[row])

    def __len__(self):
        return len(self.ascending)

    def __contains__(self, x):
        return is_situation(x) and x in self.nodes


def check_judged(loop, wish):
    """Raises the error of a loop and a wish that cannot be judged together."""
    if not wish.fits(loop):
        raise Unfit(wish)
    if wish.wants_begins and loop.order not in BEGIN_ORDERS:
        raise BadOrder(loop.order)
    window = 2 if loop.uses_window or wish.uses_window else 0
    if len(loop.registers) + window + len(SORT_EDGES[loop.order]) > 4:
        raise TooWide(4)


def judge(loop, wish):
    """Whether the loop is right for the wish."""
    check_judged(loop, wish)
    verdict = None
    most = None
    for watch in watches(wish):
        walk = Walk(loop, wish, watch)
        links, node = search(walk, most)
        if node is not None:
            items, window, _ = example_of(walk, links, node)
            verdict = Verdict(False, items, window, wish.fault_of(loop, items, window), None)
            most = len(items)
    if verdict is not None:
        return verdict
    has_table = isinstance(wish, Moments) and loop.reads == "stretches"
    return Verdict(True, None, None, None, Table(walk, links) if has_table else None)


def situation(loop, wish, spans, window, moment):
    """Where the run stands before `behind`: (state, ranks, counts)."""
    if not isinstance(wish, Moments) or loop.reads != "stretches" or not wish.fits(loop):
        raise Unfit(wish)
    check_call(loop, spans, window)
    check_need(wish, window)
    check_moment(moment)
    run = run_over(loop, spans, window)
    run.edges["moment"] = moment
    if spans:
        run.take(sorted_items(loop.order, spans)[-1])
    names = slot_names(loop, wish, "moment")
    ranks, _ = ranked(names, run.edges)
    return (run.state, named(names, ranks), counts_of(wish, run, spans))


def counts_of(wish, run, spans):
    """The counts of a situation; the run has put out all that it puts out."""
    watch = times_watch(wish)
    counts = watch.after(watch.start, watch.gain(run, None))
    silent = Run(run.edges)
    for span in spans:
        counts = watch.after(counts, watch.gain(silent, span))
    return counts
