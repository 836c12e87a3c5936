"""Runs of loops: what is put out, answered and added, step by step; orders and results."""

import inspect
import itertools
import random
import unittest

from spanloops.errors import BadEnds, BadItem, BadMoment, BadOrder, BadWindow, NoWindow
from spanloops.loops import Loop, Result, Rule, is_sorted, sort_items, steps
from spanloops.spans import FIRST, LAST
from tests import known
from tests.oracle import KEYS, Machine, all_items, all_windows
from tests.samples import FAR, NO_ENDS, NO_MOMENTS, NO_STRETCHES, NO_WINDOWS, ODD_OBJECTS, STRETCHES
from tests.test_rules import EVENT_ORDERS, STRETCH_ORDERS

EVENTS = [("in", 0), ("out", 5), ("in", FAR), ("out", -FAR)]
NO_EVENTS = ODD_OBJECTS + [
    0, 5, "in", ("in",), ("in", 1, 2), ["in", 1], ("IN", 1), ("inn", 1), ("", 1), (1, "in"), ("in", "1"), ("in", None),
    ("in", True), ("out", False), ("in", FIRST), ("out", LAST), ("in", FAR + 1), ("out", -FAR - 1), ("in", [1]),
    (["in"], 1), (True, 1), (0, 1), (3, 3), (("in", 1), 2), ("in", 10 ** 39),
]

PUT = Rule(do=[("put", "begin", "end")])
PUT_AT = Rule(do=[("put", "at", "at")])


def told(result):
    return (result.puts, result.answer, result.tally, result.broken)


def scrambled(source, events):
    """A loop of random rules."""
    def name(part):
        own = ["at"] if events else ["begin", "end"]
        return source.choice(["low", "high", "mark", "left", "right", "first", "last"] + (own * 3 if part == "each" else []))

    def term(part):
        if source.random() < 0.3:
            return (source.choice(["min", "max"]), name(part), name(part))
        return name(part)

    def a_test(part):
        if source.random() < 0.3:
            return (source.choice(["set", "unset"]), source.choice(["low", "high", "mark"]))
        if events and part == "each" and source.random() < 0.3:
            return (source.choice(["in", "out"]),)
        return (source.choice(["<", "<=", "==", "!="]), name(part), name(part))

    def deed(part, is_last):
        if is_last and source.random() < 0.15:
            return ("say", source.random() < 0.5)
        if is_last and part == "each" and source.random() < 0.1:
            return ("stop",)
        register = source.choice(["low", "high", "mark"])
        return source.choice([("keep", register, term(part)), ("keep", register, term(part)), ("drop", register),
                              ("put", term(part), term(part)), ("add", source.randint(-9, 9))])

    def rule(part):
        many = source.randint(0, 3)
        return Rule(*[a_test(part) for _ in range(source.randint(0, 2))],
                    do=[deed(part, k == many - 1) for k in range(many)])

    order = source.choice(EVENT_ORDERS if events else STRETCH_ORDERS)
    parts = {part: [rule(part) for _ in range(source.randint(0, 4))] for part in ("ahead", "each", "behind")}
    return Loop(order, **parts)


class RunTest(unittest.TestCase):

    def test_puts_in_every_order(self):
        spans = [(3, 9), (0, 4), (3, 5), (0, 4), (0, 9), (3, 3)]
        for order, puts in [
            ("any", ((3, 9), (0, 4), (3, 5), (0, 4), (0, 9), (3, 3))),
            ("begin", ((0, 4), (0, 4), (0, 9), (3, 9), (3, 5), (3, 3))),
            ("begin end", ((0, 4), (0, 4), (0, 9), (3, 3), (3, 5), (3, 9))),
            ("begin back", ((0, 9), (0, 4), (0, 4), (3, 9), (3, 5), (3, 3))),
            ("end", ((3, 3), (0, 4), (0, 4), (3, 5), (3, 9), (0, 9))),
            ("end begin", ((3, 3), (0, 4), (0, 4), (3, 5), (0, 9), (3, 9))),
            ("end back", ((3, 3), (0, 4), (0, 4), (3, 5), (3, 9), (0, 9))),
        ]:
            with self.subTest(order=order):
                self.assertEqual(told(Loop(order, each=[PUT])(spans)), (puts, None, 0, None))
                self.assertEqual(Loop(order, each=[PUT])(tuple(spans)).puts, puts)
        self.assertEqual(spans, [(3, 9), (0, 4), (3, 5), (0, 4), (0, 9), (3, 3)])

    def test_events_in_every_order(self):
        events = [("out", 5), ("in", 5), ("in", 2), ("out", 5), ("out", 2), ("in", 5)]
        each = [Rule(("in",), do=[("put", "at", "last")]), Rule(("out",), do=[("put", "first", "at")])]
        for order, words in [
            ("at", "in 2, out 2, out 5, in 5, out 5, in 5"),
            ("at in", "in 2, out 2, in 5, in 5, out 5, out 5"),
            ("at out", "out 2, in 2, out 5, out 5, in 5, in 5"),
        ]:
            rows = [row.split(" ") for row in words.split(", ")]
            puts = tuple((int(at), LAST) if word == "in" else (FIRST, int(at)) for word, at in rows)
            self.assertEqual(Loop(order, each=each)(events).puts, puts)

    def test_open_ends_and_an_empty_list(self):
        join = known.joining()
        self.assertEqual(join([(5, LAST), (FIRST, 2), (2, 3)]).puts, ((FIRST, 3), (5, LAST)))
        self.assertEqual(join([(0, 9), (2, 3), (0, 9)]).puts, ((0, 9),))
        self.assertEqual(told(join([])), ((), None, 0, None))
        self.assertEqual(told(join(())), ((), None, 0, None))
        self.assertEqual(known.gaps_everywhere()([]).puts, ((FIRST, LAST),))
        self.assertEqual(told(Loop("any")([(1, 2)])), ((), None, 0, None))

    def test_window(self):
        gaps = known.gaps_in_window()
        self.assertEqual(gaps([(6, 8), (2, 4)], (0, 10)).puts, ((0, 2), (4, 6), (8, 10)))
        self.assertEqual(gaps([(6, 8), (2, 4)], window=(3, 7)).puts, ((4, 6),))
        self.assertEqual(gaps(items=[], window=(FIRST, LAST)).puts, ((FIRST, LAST),))
        self.assertEqual(gaps([(FIRST, 0), (5, LAST)], (FIRST, LAST)).puts, ((0, 5),))
        self.assertEqual(known.joining()([(1, 3)], (2, 7)).puts, ((1, 3),))

    def test_first_rule_that_applies_is_done_and_no_other(self):
        each = [Rule(("<", "begin", "end"), ("==", "begin", "first"), do=[("add", 1)]),
                Rule(("<", "begin", "end"), do=[("add", 3)]), Rule(do=[("add", 9)]), Rule(do=[("put", "begin", "end")])]
        loop = Loop("any", each=each)
        self.assertEqual(told(loop([(FIRST, 2), (3, 5), (4, 4)])), ((), None, 13, None))
        self.assertEqual(Loop("any", each=each[:2])([(4, 4)]).tally, 0)

    def test_every_sign(self):
        rows = {(1, 5): {"<", "<=", "!="}, (5, 5): {"<=", "=="}}
        for sign in ("<", "<=", "==", "!="):
            loop = Loop("any", each=[Rule((sign, "begin", "end"), do=[("say", True)])], behind=[Rule(do=[("say", False)])])
            back = Loop("any", each=[Rule((sign, "end", "begin"), do=[("say", True)])], behind=[Rule(do=[("say", False)])])
            for span, signs in rows.items():
                self.assertIs(loop([span]).answer, sign in signs)
            self.assertIs(back([(1, 5)]).answer, sign == "!=")

    def test_terms_and_registers(self):
        each = [Rule(("unset", "low"), do=[("keep", "low", "begin"), ("keep", "high", ("max", "end", "left"))]),
                Rule(("set", "mark"), do=[("drop", "mark"), ("put", ("min", "begin", "low"), ("max", "high", "high"))]),
                Rule(do=[("keep", "mark", ("min", "low", "begin")), ("keep", "low", "mark"), ("drop", "mark"),
                         ("keep", "mark", "right")])]
        loop = Loop("any", each=each)
        rows = [row[3] for row in steps(loop, [(5, 8), (3, 4), (4, 9)], (0, 20))]
        self.assertEqual(rows, [(None, None, None), (5, 8, None), (3, 8, 20), (3, 8, None), (3, 8, None)])
        self.assertEqual(loop([(5, 8), (3, 4), (4, 9)], (10, 20)).puts, ((3, 10),))

    def test_a_pair_may_be_empty_or_upside_down(self):
        loop = Loop("any", each=[Rule(do=[("put", "end", "begin"), ("put", "last", "first"), ("put", "first", "first")])])
        self.assertEqual(loop([(1, 5)]).puts, ((5, 1), (LAST, FIRST), (FIRST, FIRST)))

    def test_tally(self):
        loop = Loop("any", ahead=[Rule(do=[("add", 9)])], each=[Rule(do=[("add", -9), ("add", 0), ("add", 4)])],
                    behind=[Rule(do=[("add", 1), ("add", 1)])])
        self.assertEqual([loop([(0, 1)] * many).tally for many in range(4)], [11, 6, 1, -4])


class EndTest(unittest.TestCase):

    def test_stop(self):
        each = [Rule(("<", "end", "begin")), Rule(("==", "begin", "end"), do=[("add", 5), ("stop",)]), PUT]
        loop = Loop("any", each=each, behind=[Rule(do=[("put", "first", "last"), ("add", 1)])])
        self.assertEqual(told(loop([(0, 1), (2, 2), (3, 4)])), (((0, 1), (FIRST, LAST)), None, 6, None))
        events = Loop("at", each=[Rule(("out",), do=[("stop",)]), PUT_AT], behind=[Rule(do=[("say", True)])])
        self.assertEqual(told(events([("in", 7), ("out", 3), ("in", 1)])), (((1, 1),), True, 0, None))

    def test_say_in_each_part(self):
        behind = [Rule(do=[("put", "first", "last"), ("add", 1), ("say", True)])]
        ahead = Loop("any", ahead=[Rule(do=[("add", 2), ("say", False)])], each=[PUT], behind=behind)
        self.assertEqual(told(ahead([(0, 1)])), ((), False, 2, None))
        each = Loop("any", each=[Rule(("==", "begin", "end"), do=[("say", False)]), PUT], behind=behind)
        self.assertEqual(told(each([(0, 1), (2, 2), (3, 4)])), (((0, 1),), False, 0, None))
        self.assertEqual(told(each([(0, 1)])), (((0, 1), (FIRST, LAST)), True, 1, None))
        events = Loop("at", each=[Rule(("in",), do=[("put", "at", "at"), ("say", True)])], behind=behind)
        self.assertEqual(told(events([("in", 4), ("in", 2)])), (((2, 2),), True, 0, None))

    def test_break_in_each_part(self):
        bad = Rule(("set", "mark"), ("<", "low", "left"))
        for part in ("ahead", "behind"):
            loop = Loop("any", **{part: [bad, Rule(do=[("put", "left", "right"), ("put", "low", "left")])]})
            self.assertEqual(told(loop([(0, 1)], (2, 3))), (((2, 3),), None, 0, (part, 2)))
        loop = Loop("any", each=[Rule(("==", "begin", "end"), do=[("add", 1)]), bad, Rule(("<=", "begin", "high"))],
                    behind=[Rule(do=[("say", True)])])
        self.assertEqual(told(loop([(1, 1), (2, 3), (4, 4)], (0, 9))), ((), None, 1, ("each", 3)))
        self.assertEqual(told(loop([(1, 1)], (0, 9))), ((), True, 1, None))
        events = Loop("at", each=[Rule(("in",), ("==", "at", "low"))])
        self.assertEqual(told(events([("out", 3), ("in", 4)])), ((), None, 0, ("each", 1)))

    def test_what_stands_before_a_break_in_the_same_rule_stays(self):
        for deed in [("put", "high", "begin"), ("put", "begin", "high"), ("put", ("min", "begin", "high"), "end"),
                     ("keep", "low", "high"), ("keep", "low", ("max", "high", "end")), ("keep", "high", "high")]:
            rule = Rule(do=[("put", "begin", "end"), ("add", 4), deed, ("add", 5)])
            loop = Loop("any", each=[Rule(("unset", "low"), do=[("keep", "low", "begin"), ("add", 1)]), rule],
                        behind=[Rule(do=[("add", 7)])])
            self.assertEqual(told(loop([(0, 1), (2, 3), (4, 5)])), (((2, 3),), None, 5, ("each", 2)))
            rows = list(steps(loop, [(0, 1), (2, 3), (4, 5)]))
            self.assertEqual(rows[-1], ("each", (2, 3), 2, (0, None, None), ((2, 3),)))

    def test_every_test_that_reads_breaks(self):
        for sign, names in itertools.product(("<", "<=", "==", "!="), [("low", "end"), ("end", "low"), ("low", "low")]):
            loop = Loop("any", each=[Rule((sign, *names), do=[("add", 1)])])
            self.assertEqual(told(loop([(0, 1)])), ((), None, 0, ("each", 1)))

    def test_what_does_not_read_does_not_break(self):
        loop = Loop("any", each=[Rule(("unset", "low"), do=[("drop", "low"), ("keep", "high", "end"), ("drop", "mark")]),
                                 Rule(("set", "mark"))])
        self.assertEqual(told(loop([(0, 1), (1, 2)])), ((), None, 0, None))

    def test_a_test_that_fails_ahead_of_one_that_would_break(self):
        loop = Loop("any", each=[Rule(("set", "low"), ("<", "low", "begin"), do=[("add", 1)]),
                                 Rule(("<", "end", "begin"), ("==", "mark", "mark")), Rule(do=[("keep", "low", "begin")])])
        self.assertEqual(told(loop([(0, 1), (2, 3)])), ((), None, 1, None))
        turned = Loop("any", each=[Rule(("<", "low", "begin"), ("set", "low"), do=[("add", 1)])])
        self.assertEqual(turned([(0, 1)]).broken, ("each", 1))


class CallTest(unittest.TestCase):

    def test_wrong_items_ahead_of_wrong_windows_ahead_of_none(self):
        window = Rule(("<", "left", "right"))
        loops = [(Loop("begin", ahead=[window]), STRETCHES[:4], NO_STRETCHES + EVENTS[:2]),
                 (Loop("at in", behind=[window]), EVENTS, NO_EVENTS)]
        for loop, good, bad in loops:
            for odd, held in itertools.product(bad, ([], (0, 1), None)):
                for call in [loop, lambda items, window: list(steps(loop, items, window))]:
                    with self.assertRaises(BadItem) as caught:
                        call(good + [odd, None], held)
                    self.assertEqual(caught.exception.index, len(good))
                    with self.assertRaises(BadItem) as caught:
                        call((odd,), held)
                    self.assertEqual(caught.exception.index, 0)

    def test_index_counts_in_the_list_as_it_was_passed(self):
        with self.assertRaises(BadItem) as caught:
            Loop("end")([(5, 9), (0, 1), (3, 2), (4, 4)])
        self.assertEqual(caught.exception.index, 2)

    def test_wrong_windows_also_where_they_are_not_used(self):
        for loop in [Loop("any", each=[PUT]), known.each_in_window(), Loop("at", each=[PUT_AT])]:
            for window in NO_WINDOWS:
                with self.subTest(window=window):
                    with self.assertRaises(BadWindow) as caught:
                        loop([], window)
                    self.assertIs(caught.exception.window, window)
                    with self.assertRaises(BadWindow):
                        list(steps(loop, [], window))

    def test_no_window(self):
        for loop in [known.each_in_window(), Loop("at", behind=[Rule(do=[("keep", "low", "right")])]),
                     Loop("any", behind=[Rule(("<", "left", "first"))])]:
            with self.assertRaises(NoWindow) as caught:
                loop([])
            self.assertIs(caught.exception.user, loop)
            with self.assertRaises(NoWindow) as caught:
                list(steps(loop, [], None))
            self.assertIs(caught.exception.user, loop)

    def test_nothing_is_changed_and_a_second_call_gives_the_same(self):
        loop, other = known.gaps_in_window(), known.joining()
        spans = [(6, 8), (2, 4), (2, 4)]
        one = loop(spans, (0, 9))
        other(spans)
        self.assertEqual(spans, [(6, 8), (2, 4), (2, 4)])
        self.assertEqual(one, loop(spans, (0, 9)))
        self.assertEqual(loop, known.gaps_in_window())
        self.assertRaises(BadItem, loop, [None], (0, 9))
        self.assertEqual(one, loop(tuple(spans), (0, 9)))

    def test_long_lists(self):
        spans = [(2 * k, 2 * k + 1) for k in range(1000)]
        self.assertEqual(known.joining()(spans[::-1]).puts, tuple(spans))
        self.assertEqual(known.counting()(spans + spans[:100]).tally, 1100)


class StepTest(unittest.TestCase):

    def test_joining(self):
        rows = list(steps(known.joining(), [(6, 9), (0, 2), (1, 5), (3, 3)]))
        self.assertEqual(rows, [
            ("ahead", None, 0, (None, None, None), ()),
            ("each", (0, 2), 3, (0, 2, None), ()),
            ("each", (1, 5), 2, (0, 5, None), ()),
            ("each", (3, 3), 1, (0, 5, None), ()),
            ("each", (6, 9), 4, (6, 9, None), ((0, 5),)),
            ("behind", None, 1, (6, 9, None), ((6, 9),)),
        ])
        self.assertTrue(all(type(row) is tuple and type(row[3]) is tuple and type(row[4]) is tuple for row in rows))
        self.assertTrue(inspect.isgenerator(steps(known.joining(), [])))

    def test_ahead_and_behind_stand_there_also_without_rules(self):
        self.assertEqual(list(steps(Loop("at"), [("in", 3)], window=(0, 1))), [
            ("ahead", None, 0, (None, None, None), ()), ("each", ("in", 3), 0, (None, None, None), ()),
            ("behind", None, 0, (None, None, None), ()),
        ])

    def test_stop_say_and_break(self):
        nothing = (None, None, None)
        stop = Loop("any", each=[Rule(do=[("keep", "mark", "end"), ("stop",)])], behind=[Rule(do=[("put", "mark", "last")])])
        self.assertEqual(list(steps(stop, [(0, 1), (2, 3)])), [
            ("ahead", None, 0, nothing, ()), ("each", (0, 1), 1, (None, None, 1), ()),
            ("behind", None, 1, (None, None, 1), ((1, LAST),)),
        ])
        say = Loop("any", each=[Rule(do=[("put", "end", "begin"), ("say", True)])], behind=[Rule(do=[("add", 1)])])
        self.assertEqual(list(steps(say, [(0, 1), (2, 3)])), [
            ("ahead", None, 0, nothing, ()), ("each", (0, 1), 1, nothing, ((1, 0),)),
        ])
        early = Loop("any", ahead=[Rule(("set", "low")), Rule(do=[("keep", "low", "first"), ("say", True)])], each=[PUT])
        self.assertEqual(list(steps(early, [(0, 1)])), [("ahead", None, 2, (FIRST, None, None), ())])
        broken = Loop("any", each=[Rule(("==", "begin", "end")), Rule(("<", "begin", "low"))])
        self.assertEqual(list(steps(broken, [(0, 0), (0, 1), (5, 5)])), [
            ("ahead", None, 0, nothing, ()), ("each", (0, 0), 1, nothing, ()), ("each", (0, 1), 2, nothing, ()),
        ])
        ahead = Loop("any", ahead=[Rule(do=[("keep", "low", "last"), ("put", "low", "high")])], behind=[Rule()])
        self.assertEqual(list(steps(ahead, [])), [("ahead", None, 1, (LAST, None, None), ())])

    def test_scrambled_loops(self):
        source = random.Random(1)
        for events in (False, True):
            items, windows = all_items(events, 4), all_windows(4)
            for _ in range(1500):
                loop = scrambled(source, events)
                rows, window = source.choices(items, k=source.randint(0, 5)), source.choice(windows)
                run = Machine(loop, rows, window)
                result = loop(rows, window)
                due = (tuple(run.puts), run.answer, run.tally, run.broken)
                self.assertEqual(repr(told(result)), repr(due), (loop.order, rows, window))
                made = list(steps(loop, rows, window))
                self.assertEqual(made, run.steps)
                self.assertEqual(tuple(pair for row in made for pair in row[4]), result.puts)
                self.assertEqual(loop(rows, window), result)


class OrderTest(unittest.TestCase):

    def test_sort_items(self):
        for order in STRETCH_ORDERS + EVENT_ORDERS:
            items = all_items(order in EVENT_ORDERS, 2)
            for count in range(4):
                for rows in itertools.product(items, repeat=count):
                    kept = list(rows)
                    made = sort_items(order, kept)
                    self.assertEqual(made, sorted(rows, key=KEYS[order]))
                    self.assertIs(is_sorted(order, kept), made == kept)
                    self.assertIs(is_sorted(order, rows), made == kept)
                    self.assertEqual(kept, list(rows))
                    self.assertIsNot(made, kept)

    def test_items_that_the_order_does_not_part_stay(self):
        self.assertEqual(sort_items("begin", [(1, 5), (0, 3), (1, 2), (0, 9)]), [(0, 3), (0, 9), (1, 5), (1, 2)])
        self.assertEqual(sort_items("end", [(3, 4), (1, 4), (2, 3), (0, 3)]), [(2, 3), (0, 3), (3, 4), (1, 4)])
        self.assertEqual(sort_items("at", (("out", 1), ("in", 1), ("out", 0))), [("out", 0), ("out", 1), ("in", 1)])
        self.assertEqual(sort_items(order="any", items=((5, 6), (1, 2))), [(5, 6), (1, 2)])

    def test_open_ends(self):
        spans = [(0, LAST), (FIRST, 3), (0, 9)]
        self.assertEqual(sort_items("begin back", spans), [(FIRST, 3), (0, LAST), (0, 9)])
        self.assertEqual(sort_items("end back", spans), [(FIRST, 3), (0, 9), (0, LAST)])
        self.assertIs(is_sorted(order="any", items=spans), True)

    def test_wrong_orders_ahead_of_wrong_items(self):
        for call in (sort_items, is_sorted):
            for order in ODD_OBJECTS + [0, "Begin", "at  in", ["at"], ("begin",)]:
                with self.assertRaises(BadOrder) as caught:
                    call(order, [None])
                self.assertIs(caught.exception.order, order)
            for order, odd in itertools.product(STRETCH_ORDERS, NO_STRETCHES + [("in", 1)]):
                with self.assertRaises(BadItem) as caught:
                    call(order, [(5, 6), (0, 1), odd, None])
                self.assertEqual(caught.exception.index, 2)
            for order, odd in itertools.product(EVENT_ORDERS, NO_EVENTS):
                with self.assertRaises(BadItem) as caught:
                    call(order, (("in", 5), odd))
                self.assertEqual(caught.exception.index, 1)


class ResultTest(unittest.TestCase):

    def test_attributes_and_truth(self):
        for answer, tally, broken in itertools.product((True, False, None), (0, -3, 7), (None, ("each", 2), ("ahead", 1))):
            made = Result(((0, 1), (5, 2)), answer, tally, broken)
            self.assertEqual(told(made), (((0, 1), (5, 2)), answer, tally, broken))
            self.assertIs(bool(made), broken is None)
        named = Result(broken=None, tally=1, answer=True, puts=())
        self.assertEqual(told(named), ((), True, 1, None))
        self.assertIs(bool(named), True)

    def test_equality(self):
        rows = list(itertools.product([(), ((0, 1),), ((0, 1), (0, 1)), ((1, 0),)], (True, False, None), (0, 1, 5),
                                      (None, ("each", 1), ("behind", 1))))
        for one, other in itertools.product(rows, repeat=2):
            self.assertIs(Result(*one) == Result(*other), repr(one) == repr(other))
        for odd in [None, ((), None, 0, None), (), True, Rule()]:
            self.assertFalse(Result((), None, 0, None) == odd)
        self.assertEqual(known.joining()([(0, 1)]), Result(((0, 1),), None, 0, None))

    def test_times(self):
        result = Result(((0, 4), (4, 8), (2, 6), (5, 5), (8, 2), (FIRST, 1), (7, LAST), (LAST, FIRST)), None, 0, None)
        self.assertEqual([result.times(moment) for moment in range(-1, 10)], [1, 2, 1, 2, 2, 2, 2, 1, 2, 1, 1])
        self.assertEqual([result.times(moment, "shut") for moment in range(-1, 10)], [1, 2, 2, 2, 2, 3, 3, 2, 2, 2, 1])
        self.assertEqual(result.times(FIRST + 1), 1)
        self.assertEqual(result.times(moment=LAST - 1, ends="half"), 1)

    def test_times_of_wrong_moments_ahead_of_wrong_ends(self):
        for result in [Result((), None, 0, None), Result(((0, 1),), True, 0, ("each", 1))]:
            for moment in NO_MOMENTS:
                with self.assertRaises(BadMoment) as caught:
                    result.times(moment, "x")
                self.assertIs(caught.exception.moment, moment)
            for ends in NO_ENDS:
                with self.assertRaises(BadEnds) as caught:
                    result.times(3, ends)
                self.assertIs(caught.exception.ends, ends)


if __name__ == "__main__":
    unittest.main()
