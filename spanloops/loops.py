"""Rules, loops, and what a run of a loop results in."""

from spanloops.errors import BadDeed, BadOrder, BadRule, BadTest, BadUse, NoWindow, TooMany
from spanloops.orders import check_items, check_order, reads_events, sorted_items
from spanloops.rules import ITEM_NAMES, REGISTERS, ends_rule, is_deed, is_test, names_in_deed, names_in_test
from spanloops.runs import Run, check_window, fresh_edges
from spanloops.spans import check_ends, check_moment, holds


class Rule:
    """Tests, and the deeds that are done if all of them hold."""

    def __init__(self, *tests, do=()):
        for test in tests:
            if not is_test(test):
                raise BadTest(test)
        if len(tests) > 4:
            raise TooMany(4)
        for index, deed in enumerate(do):
            if not is_deed(deed) or (ends_rule(deed) and index < len(do) - 1):
                raise BadDeed(deed)
        if len(do) > 4:
            raise TooMany(4)
        self.tests = tests
        self.deeds = tuple(do)

    @property
    def names(self):
        """The names that occur, ascending."""
        tested = [name for test in self.tests for name in names_in_test(test)]
        done = [name for deed in self.deeds for name in names_in_deed(deed)]
        return tuple(sorted(set(tested + done)))

    def __eq__(self, other):
        return isinstance(other, Rule) and self.tests == other.tests and self.deeds == other.deeds


def may_stand(rule, part, order):
    """Whether nothing stands in the rule that may not stand in this part of a loop of this order."""
    if part != "each":
        barred = ITEM_NAMES
    elif reads_events(order):
        barred = ("begin", "end")
    else:
        barred = ("at",)
    reads_word = any([test in (("in",), ("out",)) for test in rule.tests])
    if reads_word and (part != "each" or not reads_events(order)):
        return False
    if part != "each" and ("stop",) in rule.deeds:
        return False
    return not any([name in barred for name in rule.names])


def check_rules(part, rules, order):
    """Raises the error of the first member of a part that may not stand there."""
    for rule in rules:
        if not isinstance(rule, Rule):
            raise BadRule(rule)
    if len(rules) > 6:
        raise TooMany(6)
    for number, rule in enumerate(rules, start=1):
        if not may_stand(rule, part, order):
            raise BadUse((part, number))


class Result:
    """What a run of a loop results in."""

    def __init__(self, puts, answer, tally, broken):
        self.puts = puts
        self.answer = answer
        self.tally = tally
        self.broken = broken

    def times(self, moment, ends="half"):
        """How many of the pairs that were put out hold the moment."""
        check_moment(moment)
        check_ends(ends)
        return len([pair for pair in self.puts if holds(pair, moment, ends)])

    def __eq__(self, other):
        return (isinstance(other, Result) and self.puts == other.puts and self.answer == other.answer
                and self.tally == other.tally and self.broken == other.broken)

    def __bool__(self):
        return self.broken is None


class Loop:
    """An order, and the rules that are done ahead of the list, for each item, and behind it."""

    def __init__(self, order, *, ahead=(), each=(), behind=()):
        check_order(order)
        check_rules("ahead", ahead, order)
        check_rules("each", each, order)
        check_rules("behind", behind, order)
        self.order = order
        self.ahead = tuple(ahead)
        self.each = tuple(each)
        self.behind = tuple(behind)
        rules = self.ahead + self.each + self.behind
        self.known = tuple(sorted({name for rule in rules for name in rule.names}))

    @property
    def reads(self):
        """What the items are: stretches or events."""
        return "events" if reads_events(self.order) else "stretches"

    @property
    def registers(self):
        """The registers that occur."""
        return tuple([name for name in REGISTERS if name in self.known])

    @property
    def uses_window(self):
        """Whether an edge of the window occurs."""
        return "left" in self.known or "right" in self.known

    def part(self, word):
        """The rules of a part."""
        if word == "ahead":
            return self.ahead
        if word == "each":
            return self.each
        return self.behind

    def by(self, order):
        """The loop with the same parts and another order of the same items."""
        other = Loop(order)
        if other.reads != self.reads:
            raise BadOrder(order)
        return Loop(order, ahead=self.ahead, each=self.each, behind=self.behind)

    def __eq__(self, other):
        return (isinstance(other, Loop) and self.order == other.order and self.ahead == other.ahead
                and self.each == other.each and self.behind == other.behind)

    def __call__(self, items, window=None):
        check_call(self, items, window)
        run = run_over(self, items, window)
        if not run.has_ended():
            run.do_part("behind", self.behind)
        return Result(tuple(run.puts), run.answer, run.tally, run.place)


def check_call(loop, items, window):
    """Raises the first error of a call of the loop."""
    check_items(loop.order, items)
    check_window(window)
    if window is None and loop.uses_window:
        raise NoWindow(loop)


def opened_run(loop, window):
    """A run of the loop, with `ahead` done."""
    run = Run(fresh_edges(window))
    run.do_part("ahead", loop.ahead)
    return run


def run_over(loop, items, window):
    """The run of the loop over the list, with nothing of `behind` done."""
    run = opened_run(loop, window)
    for item in sorted_items(loop.order, items):
        if run.state == "reading":
            run.take(item)
            run.do_part("each", loop.each)
    return run


def steps(loop, items, window=None):
    """Yields what each step of a run does: (part, item, number of the rule, registers, puts)."""
    check_call(loop, items, window)
    run = opened_run(loop, window)
    yield ("ahead", None, run.rule_number, run.held(), tuple(run.puts))
    for item in sorted_items(loop.order, items):
        if run.state == "reading":
            done = len(run.puts)
            run.take(item)
            run.do_part("each", loop.each)
            yield ("each", item, run.rule_number, run.held(), tuple(run.puts[done:]))
    if not run.has_ended():
        done = len(run.puts)
        run.do_part("behind", loop.behind)
        yield ("behind", None, run.rule_number, run.held(), tuple(run.puts[done:]))


def sort_items(order, items):
    """The items of a list as a loop of this order reads them, a new list."""
    check_order(order)
    check_items(order, items)
    return sorted_items(order, items)


def is_sorted(order, items):
    """Whether sorting a list of items by this order changes nothing."""
    return sort_items(order, items) == list(items)
