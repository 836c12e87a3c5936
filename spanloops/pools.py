"""Loops with optional rules, and which sets of options make them right."""

from spanloops.choices import choices_of, is_option, remedies_among
from spanloops.errors import BadOption, BadOrder, BadRule, BadUse, NoOption, TooMany, TooWide, Unfit
from spanloops.judging import judge
from spanloops.loops import Loop, Rule, may_stand
from spanloops.orders import BEGIN_ORDERS, SORT_EDGES, check_order, reads_events
from spanloops.rules import REGISTERS


def check_option(option):
    """Raises BadOption of any object that is not an option."""
    if not is_option(option):
        raise BadOption(option)


class Row:
    """A rule, and the options with or without which it stands in the loop."""

    def __init__(self, rule, *, only=None, unless=None):
        if not isinstance(rule, Rule):
            raise BadRule(rule)
        if only is not None:
            check_option(only)
        if unless is not None:
            check_option(unless)
        self.rule = rule
        self.only = only
        self.unless = unless

    def stands(self, options):
        """Whether the rule stands in the loop of these options."""
        return self.unless not in options and (self.only is None or self.only in options)


def check_sorts(order, sorts):
    """Raises the error of the first option or order that is none, or of other items than the pool's order."""
    for option, other in sorts:
        check_option(option)
        check_order(other)
        if reads_events(other) != reads_events(order):
            raise BadOrder(other)


def check_rows(part, rows, order):
    """Raises the error of the first member of a part that may not stand there."""
    for row in rows:
        if not isinstance(row, Row):
            raise BadRule(row)
    if len(rows) > 6:
        raise TooMany(6)
    for number, row in enumerate(rows, start=1):
        if not may_stand(row.rule, part, order):
            raise BadUse((part, number))


def rules_of(rows, options):
    """The rules of the rows that stand in the loop of these options."""
    return [row.rule for row in rows if row.stands(options)]


class Pool:
    """A loop with options."""

    def __init__(self, order, *, sorts=(), ahead=(), each=(), behind=()):
        check_order(order)
        check_sorts(order, sorts)
        check_rows("ahead", ahead, order)
        check_rows("each", each, order)
        check_rows("behind", behind, order)
        rows = list(ahead) + list(each) + list(behind)
        words = [option for option, _ in sorts]
        words += [row.only for row in rows if row.only is not None]
        words += [row.unless for row in rows if row.unless is not None]
        self.known = tuple(sorted(set(words)))
        if len(self.known) > 4:
            raise TooMany(4)
        self.order = order
        self.sorts = tuple([(option, other) for option, other in sorts])
        self.ahead = tuple(ahead)
        self.each = tuple(each)
        self.behind = tuple(behind)

    @property
    def options(self):
        """The options that occur, ascending."""
        return self.known

    def order_of(self, options):
        """How the loop of these options sorts."""
        for option, order in self.sorts:
            if option in options:
                return order
        return self.order

    def loop(self, *options):
        """The loop of these options."""
        for option in options:
            if option not in self.known:
                raise NoOption(option)
        return Loop(self.order_of(options), ahead=rules_of(self.ahead, options), each=rules_of(self.each, options),
                    behind=rules_of(self.behind, options))

    def verdict(self, wish, *options):
        """The verdict of the loop of these options."""
        return judge(self.loop(*options), wish)

    def remedies(self, wish):
        """The least sets of options whose loop is right."""
        check_asked(self, wish)
        return remedies_among(self.known, lambda chosen: self.verdict(wish, *chosen).right)

    def harms(self, wish):
        """The sets of options whose loop is right, each with an option that makes it wrong."""
        check_asked(self, wish)
        right = [chosen for chosen in choices_of(self.known) if self.verdict(wish, *chosen).right]
        return tuple([(chosen, option) for chosen in right for option in self.known
                      if option not in chosen and tuple(sorted((*chosen, option))) not in right])


def names_known(pool):
    """The names that occur in all rows of a pool."""
    return [name for row in pool.ahead + pool.each + pool.behind for name in row.rule.names]


def check_asked(pool, wish):
    """Raises the error of a pool and a wish of which it cannot be asked."""
    if not wish.fits(Loop(pool.order)):
        raise Unfit(wish)
    orders = [pool.order] + [order for _, order in pool.sorts]
    for order in orders:
        if wish.wants_begins and order not in BEGIN_ORDERS:
            raise BadOrder(order)
    names = names_known(pool)
    wide = len([name for name in REGISTERS if name in names])
    if wish.uses_window or "left" in names or "right" in names:
        wide += 2
    if wide + max([len(SORT_EDGES[order]) for order in orders]) > 4:
        raise TooWide(4)
