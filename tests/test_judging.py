"""The judge: which loops are right, and the fewest items that show that one is not."""

import itertools
import random
import unittest

from spanloops.errors import BadOrder, TooWide, Unfit
from spanloops.judging import Table, Verdict, judge
from spanloops.loops import Loop, Rule
from spanloops.spans import FIRST, LAST, is_edge, is_window
from spanloops.wishes import Answer, Fault, Moments, Number
from tests import known, oracle
from tests.test_rules import EVENT_ORDERS, STRETCH_ORDERS
from tests.test_wishes import MOMENTS, OTHERS, told

ENDS = ("half", "shut")


def uses_window(loop, wish):
    return loop.uses_window or wish.uses_window


def without(rows, index):
    return [row for at, row in enumerate(rows) if at != index]


def mutants(loop):
    """Loops that lack a rule, a test or a deed, have two rules exchanged, or sort in another way."""
    parts = {word: list(loop.part(word)) for word in ("ahead", "each", "behind")}
    for word, rules in parts.items():
        for at, rule in enumerate(rules):
            yield Loop(loop.order, **{**parts, word: without(rules, at)})
            if at:
                yield Loop(loop.order, **{**parts, word: without(rules[:at - 1] + [rule] + rules[at - 1:], at + 1)})
            others = [Rule(*without(rule.tests, k), do=rule.deeds) for k in range(len(rule.tests))]
            others += [Rule(*rule.tests, do=without(rule.deeds, k)) for k in range(len(rule.deeds))]
            for other in others:
                yield Loop(loop.order, **{**parts, word: rules[:at] + [other] + rules[at + 1:]})
    for order in EVENT_ORDERS if loop.reads == "events" else STRETCH_ORDERS:
        if order != loop.order:
            yield loop.by(order)


class JudgeCase(unittest.TestCase):

    def assert_right(self, verdict, loop, wish):
        self.assertIs(verdict.right, True)
        self.assertIs(bool(verdict), True)
        self.assertEqual((verdict.witness, verdict.window, verdict.fault), (None, None, None))
        if isinstance(wish, Moments) and loop.reads == "stretches":
            self.assertIsInstance(verdict.table, Table)
        else:
            self.assertIsNone(verdict.table)

    def assert_wrong(self, verdict, loop, wish):
        """The witness has the fault that is told."""
        self.assertIs(verdict.right, False)
        self.assertIs(bool(verdict), False)
        self.assertIsNone(verdict.table)
        self.assertIsInstance(verdict.witness, tuple)
        for item in verdict.witness:
            self.assertIsInstance(item, tuple)
            self.assertTrue(all(word in ("in", "out") or is_edge(word) for word in item), item)
        if uses_window(loop, wish):
            self.assertTrue(is_window(verdict.window))
        else:
            self.assertIsNone(verdict.window)
        self.assertIsInstance(verdict.fault, Fault)
        due = oracle.fault(loop, wish, list(verdict.witness), verdict.window)
        self.assertEqual(repr(told(verdict.fault)), repr(due))
        self.assertEqual(wish.fault_of(loop, verdict.witness, verdict.window), verdict.fault)

    def assert_fewest(self, loop, wish, most):
        """The verdict is the one of trying all lists of at most so many items; returns it."""
        verdict = judge(loop, wish)
        if verdict.right:
            self.assert_right(verdict, loop, wish)
        else:
            self.assert_wrong(verdict, loop, wish)
            most = min(most, len(verdict.witness) - 1)
        window = uses_window(loop, wish)
        many = max(1, (most if loop.reads == "events" else 2 * most) + (2 if window else 0))
        windows = oracle.all_windows(many) if window else [None]
        if most >= 0:
            self.assertIsNone(oracle.fewest(loop, wish, most, many, windows))
        return verdict


class RightTest(JudgeCase):

    def test_right_loops(self):
        for loop, wish in known.RIGHT:
            with self.subTest(order=loop.order, wish=vars(wish)):
                self.assert_right(judge(loop, wish), loop, wish)
                self.assert_right(judge(wish=wish, loop=loop), loop, wish)

    def test_right_loops_have_no_fault_for_long_lists(self):
        source = random.Random(3)
        for loop, wish in known.RIGHT:
            items, windows = oracle.all_items(loop.reads == "events", 6), oracle.all_windows(6)
            for _ in range(60):
                rows = source.choices(items, k=source.randint(0, 9))
                window = source.choice(windows) if uses_window(loop, wish) else None
                self.assertIsNone(wish.fault_of(loop, rows, window))

    def test_orders_that_are_right(self):
        for make, wish, orders in [
            (known.joining, Moments("some"), ("begin", "begin end", "begin back")),
            (known.gaps_everywhere, Moments("none"), ("begin", "begin end", "begin back")),
            (known.held_by_all, Moments("all"), STRETCH_ORDERS),
            (known.each_as_it_is, Moments("each", form="full"), STRETCH_ORDERS),
            (lambda order: known.counting(order=order), Number("all"), STRETCH_ORDERS),
            (known.switches, Moments("inside", form="any"), EVENT_ORDERS),
            (known.switches, Moments("inside"), ()),
            (known.switches, Moments("inside", form="full"), ("at out",)),
        ]:
            for order in EVENT_ORDERS if wish.fits(Loop("at")) else STRETCH_ORDERS:
                self.assertIs(judge(make(order), wish).right, order in orders, (order, vars(wish)))

    def test_a_rule_in_front_makes_it_right(self):
        self.assertFalse(judge(known.joining(skips=False), Moments("some")))
        self.assertTrue(judge(known.joining(), Moments("some")))


class WrongTest(JudgeCase):

    def test_fewest_items(self):
        twice = Loop("any", each=[Rule(do=[("put", "begin", "end"), ("put", "begin", "end")])])
        for loop, wish, fewest, kinds in [
            (known.joining(skips=False), Moments("some"), 1, {"empty"}),
            (known.joining("any"), Moments("some"), 2, {"lost", "extra", "doubled", "order", "touching"}),
            (known.joining(), Moments("some", ends="shut"), 1, {"lost"}),
            (known.joining(), Moments("one"), 2, {"extra"}),
            (known.joining(), Moments("each"), 2, {"lost"}),
            (known.each_as_it_is("end"), Moments("each", within=True, form="any"), 1, {"extra"}),
            (known.joining(), Moments("none"), 0, {"lost"}),
            (Loop("any"), Moments("none"), 0, {"lost"}),
            (Loop("any"), Moments("all"), 0, {"lost"}),
            (Loop("any"), Moments("one"), 1, {"lost"}),
            (Loop("any"), Moments("two"), 2, {"lost"}),
            (Loop("any"), Moments("each"), 1, {"lost"}),
            (twice, Moments("each", form="any"), 1, {"doubled"}),
            (known.each_as_it_is(), Moments("each"), 2, {"order", "touching"}),
            (known.each_as_it_is(), Moments("some", form="full"), 2, {"doubled"}),
            (known.each_as_it_is(), Moments("each", form="cut"), 1, {"crossing"}),
            (known.each_as_it_is("end"), Moments("one", form="any"), 2, {"extra"}),
            (known.held_by_two(), Moments("two"), 0, {"empty"}),
            (known.gaps_in_window("any"), Moments("none", within=True), 2, {"lost", "extra", "doubled"}),
            (known.clashing("<="), Answer("clash"), 2, {"answer"}),
            (known.clashing(), Answer("clash", ends="shut"), 2, {"answer"}),
            (Loop("begin"), Answer("clash"), 0, {"answer"}),
            (Loop("begin", ahead=[Rule(do=[("say", False)])]), Answer("clash"), 2, {"answer"}),
            (Loop("begin back", behind=[Rule(do=[("say", False)])]), Answer("covered"), 1, {"answer"}),
            (known.busy_half(), Answer("busy", ends="shut"), 1, {"answer"}),
            (known.counting(), Number("full"), 1, {"number"}),
            (known.counting_pieces(skips=False), Number("pieces"), 1, {"number"}),
            (Loop("begin", behind=[Rule(do=[("add", 1)])]), Number("pieces"), 0, {"number"}),
            (known.counting(order="begin"), Number("pieces"), 1, {"number"}),
            (known.counting(order="begin"), Number("pieces", ends="shut"), 2, {"number"}),
            (known.switches(), Moments("inside"), 2, {"empty"}),
            (known.switches("at out"), Moments("inside"), 3, {"touching"}),
            (known.switches(), Moments("inside", ends="shut"), 2, {"extra"}),
            (Loop("at in"), Moments("inside", within=True), 1, {"lost"}),
            (Loop("any", each=[Rule(("<", "low", "begin"))]), Number("all"), 1, {"broken"}),
            (Loop("any", behind=[Rule(("<", "low", "low"))]), Answer("busy"), 0, {"broken"}),
            (Loop("at", each=[Rule(("in",)), Rule(("<", "low", "at"))]), Moments("inside"), 1, {"broken", "lost"}),
        ]:
            with self.subTest(order=loop.order, wish=vars(wish), fewest=fewest):
                verdict = self.assert_fewest(loop, wish, 1)
                self.assertEqual(len(verdict.witness), fewest)
                self.assertIn(verdict.fault.kind, kinds)

    def test_a_chain_of_items(self):
        def chain(test, take):
            rules = [Rule(("set", "mark"), *test("mark")), Rule(("set", "high"), *test("high"), do=[("add", 1), take("mark")]),
                     Rule(("set", "low"), *test("low"), do=[("add", 1), take("high")]),
                     Rule(("unset", "low"), do=[("add", 1), take("low")]), Rule(do=[("add", 1)])]
            return Loop("begin", each=rules)
        # The fourth stretch that begins later than those before it is not counted.
        later = chain(lambda name: [("<", name, "begin")], lambda name: ("keep", name, "begin"))
        verdict = judge(later, Number("all"))
        self.assert_wrong(verdict, later, Number("all"))
        self.assertEqual(len(verdict.witness), 4)
        self.assertEqual(len({begin for begin, _ in verdict.witness}), 4)
        # It is nested in three others.
        nested = chain(lambda name: [("<", "end", name)], lambda name: ("keep", name, "end"))
        verdict = judge(nested, Number("all"))
        self.assert_wrong(verdict, nested, Number("all"))
        self.assertEqual(len(verdict.witness), 4)
        ends = [end for _, end in sorted(verdict.witness)]
        self.assertEqual(len(set(ends)), 4)

    def test_open_ends(self):
        for edge, name in [("begin", "first"), ("end", "last")]:
            skip = Rule(("==", edge, name))
            loop = Loop("any", each=[skip, Rule(do=[("add", 1)])])
            verdict = self.assert_fewest(loop, Number("all"), 1)
            self.assertEqual(len(verdict.witness), 1)
            self.assertEqual(verdict.witness[0][0 if name == "first" else 1], FIRST if name == "first" else LAST)
            twice = Loop("any", each=[Rule(("!=", edge, name), do=[("put", "begin", "end")])])
            verdict = self.assert_fewest(twice, Moments("each", form="any"), 1)
            self.assertEqual((len(verdict.witness), verdict.fault.kind), (1, "lost"))
        never = Loop("any", each=[Rule(("<=", "last", "begin"), do=[("add", 5)]), Rule(("<=", "end", "first")),
                                  Rule(do=[("add", 1)])])
        self.assert_right(judge(never, Number("all")), never, Number("all"))
        both = Loop("any", each=[Rule(("==", "begin", "first"), ("==", "end", "last")), Rule(do=[("put", "begin", "end")])])
        verdict = self.assert_fewest(both, Moments("each", form="any", ends="shut"), 1)
        self.assertEqual(verdict.witness, ((FIRST, LAST),))

    def test_windows(self):
        for tests, window in [([("==", "left", "first"), ("==", "right", "last")], (FIRST, LAST)),
                              ([("==", "left", "first"), ("!=", "right", "last")], None),
                              ([("!=", "left", "first"), ("==", "right", "last")], None),
                              ([("!=", "left", "first"), ("!=", "right", "last")], None)]:
            loop = Loop("any", ahead=[Rule(*tests, do=[("add", 1)])])
            verdict = self.assert_fewest(loop, Number("within"), 0)
            self.assertEqual(verdict.witness, ())
            if window:
                self.assertEqual(verdict.window, window)
        never = Loop("any", ahead=[Rule(("<=", "right", "left"), do=[("add", 1)]), Rule(("==", "left", "last"), do=[("add", 1)])],
                     each=[Rule(("==", "right", "first")), Rule(do=[("add", 1)])])
        self.assert_right(judge(never, Number("all")), never, Number("all"))

    def test_moments_never_are_open_ends(self):
        # What is put out besides the stretches lies at FIRST and LAST, where no moment is.
        each = [Rule(do=[("put", "begin", "end"), ("put", "first", "first"), ("put", "last", "last")])]
        for ends in ENDS:
            wish = Moments("each", form="any", ends=ends)
            self.assert_right(judge(Loop("any", each=each), wish), Loop("any", each=each), wish)
        shut = Moments("each", form="full", ends="shut")
        self.assert_right(judge(Loop("end", each=each), shut), Loop("end", each=each), shut)

    def test_events_never_are_at_open_ends(self):
        breaks = [Rule((sign, "at", name), ("<", "high", "at")) for sign, name in [("==", "first"), ("<=", "first"),
                                                                                   ("==", "last")]]
        beyond = [Rule(("<", "at", "first"), ("<", "high", "at")), Rule(("<=", "last", "at"), ("<", "high", "at"))]
        for rules in (breaks, beyond):
            base = known.switches()
            loop = Loop("at", ahead=base.ahead, each=rules + list(base.each), behind=base.behind)
            self.assert_right(judge(loop, Moments("inside", form="any")), loop, Moments("inside", form="any"))
        base = known.switches()
        inner = Rule(("<", "first", "at"), ("<", "at", "last"), ("<", "high", "at"))
        loop = Loop("at", each=[inner, *base.each], behind=base.behind)
        self.assertEqual(self.assert_fewest(loop, Moments("inside", form="any"), 1).fault.kind, "broken")

    def test_equal_moments_of_events_in_each_order(self):
        possible = {"at": {"in in", "in out", "out in", "out out"}, "at in": {"in in", "in out", "out out"},
                    "at out": {"out out", "out in", "in in"}}
        for order, words in possible.items():
            for one, other in itertools.product(("in", "out"), repeat=2):
                # As known.switches; it breaks if these two words come one behind the other at one moment.
                kept = {word: ("keep", "mark", "at") if word == one else ("drop", "mark") for word in ("in", "out")}
                each = [Rule((other,), ("set", "mark"), ("==", "mark", "at"), ("<", "high", "at")),
                        Rule(("in",), ("unset", "low"), do=[("keep", "low", "at"), kept["in"]]),
                        Rule(("out",), ("set", "low"), do=[("put", "low", "at"), ("drop", "low"), kept["out"]]),
                        Rule(("in",), do=[kept["in"]]), Rule(("out",), do=[kept["out"]])]
                loop = Loop(order, each=each, behind=known.switches().behind)
                wish = Moments("inside", form="any")
                verdict = self.assert_fewest(loop, wish, 2)
                if f"{one} {other}" in words:
                    self.assertEqual((len(verdict.witness), verdict.fault.kind), (2, "broken"))
                else:
                    self.assert_right(verdict, loop, wish)

    def test_after_a_stop_and_a_say_the_other_items_count(self):
        for deed in [("stop",), ("say", True)]:
            loop = Loop("begin", each=[known.SKIP, Rule(do=[("put", "begin", "end"), deed])])
            verdict = self.assert_fewest(loop, Moments("some"), 1)
            self.assertEqual((len(verdict.witness), verdict.fault.kind), (2, "lost"))
            loop = Loop("any", each=[Rule(do=[("add", 1), deed])])
            self.assertEqual(len(self.assert_fewest(loop, Number("all"), 1).witness), 2)
        first = Loop("at", each=[Rule(do=[("stop",)])], behind=[])
        self.assertEqual(len(self.assert_fewest(first, Moments("inside"), 2).witness), 1)
        begin = Loop("begin", each=[Rule(("==", "begin", "first"), do=[("say", True)])], behind=[Rule(do=[("say", False)])])
        self.assertEqual(len(self.assert_fewest(begin, Answer("clash"), 1).witness), 1)

    def test_mutants_of_right_loops(self):
        wrong = 0
        for loop, wish in known.RIGHT:
            for other in mutants(loop):
                try:
                    verdict = self.assert_fewest(other, wish, 1 if uses_window(other, wish) else 2)
                except (BadOrder, TooWide):
                    continue
                wrong += not verdict.right
        self.assertGreater(wrong, 100)

    def test_other_wishes_for_right_loops(self):
        for loop, wish in known.RIGHT:
            for other in MOMENTS[::3] + OTHERS[::2]:
                try:
                    self.assert_fewest(loop, other, 1)
                except (BadOrder, TooWide, Unfit):
                    continue


class ErrorTest(JudgeCase):

    def wide(self, order, registers, window):
        """A loop of this order that is as wide as told."""
        deeds = [("drop", name) for name in ("low", "high", "mark")[:registers]]
        return Loop(order, ahead=[Rule(do=deeds), Rule(*[("<", "left", "right")] * window)])

    def test_unfit_ahead_of_orders_ahead_of_widths(self):
        for wish in MOMENTS + OTHERS:
            events = isinstance(wish, Moments) and wish.which == "inside"
            for order in STRETCH_ORDERS if events else EVENT_ORDERS:
                with self.assertRaises(Unfit) as caught:
                    judge(self.wide(order, 3, True), wish)
                self.assertIs(caught.exception.wish, wish)
        for wish in OTHERS:
            for order in ("any", "end", "end begin", "end back"):
                if wish.wants_begins:
                    for registers, window in [(0, False), (3, True)]:
                        with self.assertRaises(BadOrder) as caught:
                            judge(self.wide(order, registers, window), wish)
                        self.assertEqual(caught.exception.order, order)
                elif not wish.uses_window:
                    judge(self.wide(order, 1, False), wish)

    def test_at_the_limit_and_beyond_it(self):
        edges = {"any": 0, "begin": 1, "begin end": 2, "begin back": 2, "end": 1, "end begin": 2, "end back": 2,
                 "at": 1, "at in": 1, "at out": 1}
        for order, registers, window in itertools.product(edges, range(4), (False, True)):
            loop = self.wide(order, registers, window)
            wishes = [Moments("inside", within=True), Moments("inside")] if order.startswith("at") else [
                Moments("some"), Moments("each", form="cut"), Answer("busy"), Number("all"), Number("within"),
                Moments("all", within=True)]
            if order.startswith("begin"):
                wishes += [Answer("covered"), Answer("clash"), Number("pieces")]
            for wish in wishes:
                total = registers + edges[order] + (2 if window or wish.uses_window else 0)
                if total > 4:
                    with self.assertRaises(TooWide) as caught:
                        judge(loop, wish)
                    self.assertEqual(caught.exception.limit, 4)
                else:
                    self.assert_wrong(judge(loop, wish), loop, wish)

    def test_registers_and_windows_count_wherever_they_occur(self):
        for rule in [Rule(("set", "mark")), Rule(("unset", "mark")), Rule(("<", "mark", "first")), Rule(do=[("drop", "mark")]),
                     Rule(do=[("keep", "mark", "first")]), Rule(do=[("put", ("min", "first", "mark"), "last")])]:
            for word in ("ahead", "each", "behind"):
                loop = Loop("end back", ahead=[Rule(do=[("drop", "low"), ("drop", "high")])])
                parts = {"ahead": list(loop.ahead), "each": [], "behind": []}
                self.assert_wrong(judge(loop, Moments("some")), loop, Moments("some"))
                parts[word] = parts[word] + [rule]
                self.assertRaises(TooWide, judge, Loop("end back", **parts), Moments("some"))


class VerdictTest(JudgeCase):

    def test_attributes(self):
        fault = Fault("lost", 3, 0, 1)
        made = Verdict(False, ((3, 4),), (0, 9), fault, None)
        self.assertEqual((made.right, made.witness, made.window, made.fault, made.table),
                         (False, ((3, 4),), (0, 9), fault, None))
        self.assertIs(bool(made), False)
        self.assertIs(bool(Verdict(right=True, witness=None, window=None, fault=None, table=None)), True)

    def test_two_equal_calls_tell_the_same(self):
        pairs = known.RIGHT + [(known.joining(skips=False), Moments("some")), (known.joining("end"), Moments("some")),
                               (known.clashing("<="), Answer("clash")), (known.counting(), Number("touched"))]
        first = [judge(loop, wish) for loop, wish in pairs]
        second = [judge(loop, wish) for loop, wish in reversed(pairs)][::-1]
        for one, other in zip(first, second):
            self.assertEqual((one.right, one.witness, one.window, one.fault),
                             (other.right, other.witness, other.window, other.fault))
            if one.table is not None:
                self.assertEqual(one.table.rows, other.table.rows)
                for row in one.table.rows[::7]:
                    self.assertEqual(one.table.example(row), other.table.example(row))


if __name__ == "__main__":
    unittest.main()
