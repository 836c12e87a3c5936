"""What is asked of two loops, of all orders and of both ends."""

import random
import unittest

from spanloops.errors import BadEnds, BadOrder, TooWide, Unfit
from spanloops.judging import judge
from spanloops.loops import Loop, Rule
from spanloops.questions import Parting, alike, bears, needs, parting
from spanloops.spans import FIRST, LAST, Ends, is_edge, is_window
from spanloops.wishes import Answer, Moments, Number
from tests import known, oracle
from tests.samples import NO_ENDS
from tests.test_judging import mutants
from tests.test_rules import EVENT_ORDERS, STRETCH_ORDERS

ENDS = ("half", "shut")
PUT = Rule(do=[("put", "begin", "end")])
KEEP_LOW = Rule(do=[("keep", "low", "begin")])
KEEP_BOTH = Rule(do=[("keep", "low", "begin"), ("keep", "high", "end")])
KEEP_ALL = Rule(do=[("keep", "low", "begin"), ("keep", "high", "end"), ("keep", "mark", "end")])
BREAK = Rule(("<", "mark", "mark"))


def seen(found):
    return (found.kind, found.place, found.told)


def join_otherwise(order="begin"):
    """Does what known.joining() does, by other rules."""
    return Loop(order, each=[
        known.SKIP,
        Rule(("unset", "high"), do=[("keep", "low", "begin"), ("keep", "high", "end")]),
        Rule(("<", "high", "begin"), do=[("put", "low", "high"), ("keep", "low", "begin"), ("keep", "high", "end")]),
        Rule(("<", "high", "end"), do=[("keep", "high", "end")]),
    ], behind=[Rule(("set", "low"), do=[("put", "low", "high")])])


def join_at_once(order="begin"):
    """Holds what known.joining() holds, but puts it out stretch by stretch."""
    return Loop(order, each=[
        known.SKIP,
        Rule(("unset", "high"), do=[("put", "begin", "end"), ("keep", "high", "end")]),
        Rule(("<=", "end", "high")),
        Rule(do=[("put", ("max", "begin", "high"), "end"), ("keep", "high", "end")]),
    ])


def all_otherwise(order="any"):
    """Does what known.held_by_all() does, by other rules."""
    return Loop(order, each=[
        Rule(("set", "low"), ("<", "low", "begin"), ("<", "end", "high"), do=[("keep", "low", "begin"), ("keep", "high", "end")]),
        Rule(("set", "low"), ("<", "low", "begin"), do=[("keep", "low", "begin")]),
        Rule(("set", "low"), ("<", "end", "high"), do=[("keep", "high", "end")]),
        Rule(("unset", "low"), do=[("keep", "low", "begin"), ("keep", "high", "end")]),
    ], behind=[
        Rule(("set", "low"), ("<", "low", "high"), do=[("put", "low", "high")]),
        Rule(("unset", "low"), do=[("put", "first", "last")]),
    ])


def switch_otherwise(order="at"):
    """Does what known.switches() does, by other rules."""
    return Loop(order, each=[
        Rule(("set", "low"), ("out",), do=[("put", "low", "at"), ("drop", "low")]),
        Rule(("set", "low")),
        Rule(("in",), do=[("keep", "low", "at")]),
    ], behind=[Rule(("unset", "low")), Rule(do=[("put", "low", "last")])])


def window_otherwise(order="begin"):
    """Does what known.union_in_window() does; it does not stop."""
    loop = known.union_in_window(order)
    return Loop(order, ahead=loop.ahead, each=[Rule(("<=", "right", "begin"))] + list(loop.each[1:]))


ALIKE = [
    (known.joining(), join_otherwise(), ENDS),
    (known.joining(), join_at_once(), ("half",)),
    (known.joining(), known.joining(skips=False), ("half",)),
    (known.held_by_all(), all_otherwise(), ENDS),
    (known.switches(), switch_otherwise(), ENDS),
    (known.switches("at in"), switch_otherwise("at in"), ENDS),
    (known.switches("at out"), switch_otherwise("at out"), ENDS),
    (known.switches("at out"), known.switches_in_one_form("at out"), ("half",)),
    (known.union_in_window(), window_otherwise(), ENDS),
    (known.counting(("!=", "begin", "end"), order="end"), known.counting(order="end", skips=True), ENDS),
    (known.counting(("<=", "left", "begin"), ("<=", "end", "right"), order="end"),
     known.counting(("<=", "end", "right"), ("<=", "left", "begin"), order="end"), ENDS),
    (Loop("any", each=[Rule(do=[("put", "begin", "end"), ("say", True)])]),
     Loop("any", each=[Rule(do=[("put", "begin", "end"), ("keep", "low", "end"), ("say", True)])]), ENDS),
    # Both break, in other places.
    (Loop("end", each=[Rule(do=[("put", "begin", "end"), ("add", 2), ("put", "low", "end")])]),
     Loop("end", each=[Rule(do=[("add", 2), ("keep", "mark", "end"), ("put", "begin", "mark"), ("keep", "low", "high")])]),
     ENDS),
    (Loop("any", each=[BREAK, PUT]), Loop("any", each=[Rule(do=[("keep", "low", "low"), ("put", "begin", "end")])]), ENDS),
    # How the pairs are cut does not matter.
    (known.each_cut(), known.each_as_it_is(), ("half",)),
    (Loop("begin"), Loop("begin", each=[Rule(do=[("put", "end", "begin")])]), ("half",)),
]


class PartingCase(unittest.TestCase):

    def assert_parts(self, found, one, other, ends):
        """The two loops do on the witness what is told."""
        self.assertIsInstance(found, Parting)
        self.assertIsInstance(found.witness, tuple)
        for item in found.witness:
            self.assertIsInstance(item, tuple)
            self.assertTrue(all(word in ("in", "out") or is_edge(word) for word in item), item)
        if one.uses_window or other.uses_window:
            self.assertTrue(is_window(found.window))
        else:
            self.assertIsNone(found.window)
        self.assertIsInstance(found.told, tuple)
        due = oracle.parting(one, other, list(found.witness), found.window, ends)
        self.assertEqual(repr(seen(found)), repr(due))
        one(found.witness, found.window)

    def assert_fewest(self, one, other, ends, most):
        """The answer is the one of trying all lists of at most so many items; returns it."""
        found = parting(one, other, ends=ends)
        if found is not None:
            self.assert_parts(found, one, other, ends)
            most = min(most, len(found.witness) - 1)
        window = one.uses_window or other.uses_window
        many = max(1, (most if one.reads == "events" else 2 * most) + (2 if window else 0))
        windows = oracle.all_windows(many) if window else [None]
        if most >= 0:
            self.assertIsNone(oracle.part_by(one, other, ends, most, many, windows))
        return found


class PartingTest(PartingCase):

    def test_kinds_in_their_order(self):
        each = {
            "broken": Rule(("==", "begin", "end"), do=[("put", "low", "low")]),
            "answer": Rule(("==", "begin", "end"), do=[("add", 3), ("put", "first", "last"), ("say", False)]),
            "number": Rule(("==", "begin", "end"), do=[("add", 3), ("put", "first", "last")]),
            "moment": Rule(("==", "begin", "end"), do=[("put", "first", "last"), ("put", "first", "last")]),
        }
        empty = Loop("any")
        for kind, place, told in [
            ("broken", None, (True, False)), ("answer", None, (False, None)), ("number", None, (3, 0)),
            ("moment", FIRST + 1, (2, 0)),
        ]:
            loop = Loop("any", each=[each[kind]])
            found = parting(loop, empty)
            self.assert_parts(found, loop, empty, "half")
            self.assertEqual(repr(seen(found)), repr((kind, place, told)))
            self.assertEqual(len(found.witness), 1)
            found = parting(ends="shut", other=loop, one=empty)
            self.assertEqual(repr(seen(found)), repr((kind, place, told[::-1])))

    def test_an_earlier_kind_hides_a_later_one(self):
        # What is told is what the first kind tells, though the lists differ in the others, too.
        answers = Loop("any", behind=[Rule(do=[("add", 1), ("put", "first", "last"), ("say", True)])])
        others = Loop("any", behind=[Rule(do=[("add", 2), ("say", False)])])
        breaks = Loop("any", behind=[Rule(do=[("add", 2), ("put", "low", "low")])])
        self.assertEqual(seen(parting(answers, others)), ("answer", None, (True, False)))
        self.assertEqual(seen(parting(answers, breaks)), ("broken", None, (False, True)))
        self.assertEqual(seen(parting(breaks, Loop("any"))), ("broken", None, (True, False)))
        self.assertEqual(seen(parting(others, Loop("any", behind=[Rule(do=[("say", False)])]))), ("number", None, (2, 0)))
        self.assertEqual(parting(answers, others).witness, ())

    def test_silence_is_no_answer(self):
        silent = Loop("at")
        says = Loop("at", ahead=[Rule(do=[("say", False)])])
        self.assertEqual(seen(parting(silent, says)), ("answer", None, (None, False)))
        self.assertIsNone(parting(says, says))

    def test_what_was_done_before_a_break_counts(self):
        quiet = Loop("begin", each=[BREAK])
        for deeds, kind in [([("add", 1)], "number"), ([("put", "begin", "end")], "moment")]:
            loop = Loop("begin", each=[Rule(do=deeds + [("keep", "low", "high")])])
            found = self.assert_fewest(loop, quiet, "half", 1)
            self.assertEqual((found.kind, len(found.witness)), (kind, 1))
            self.assertIsNone(self.assert_fewest(loop, Loop("begin", each=[Rule(do=deeds + [("drop", "low"), ("put", "low", "low")])]), "half", 2))

    def test_the_least_moment(self):
        for ends, deeds, others, place, told in [
            ("half", [("put", "first", "last")], [], FIRST + 1, (1, 0)),
            ("shut", [("put", "last", "last")], [("put", "first", "first")], None, None),
            ("half", [("put", "first", "last")], [("put", "first", "left")], None, (1, 0)),
            ("shut", [("put", "first", "last")], [("put", "first", "left")], None, (1, 0)),
        ]:
            one, other = Loop("any", ahead=[Rule(do=deeds)]), Loop("any", ahead=[Rule(do=others)])
            found = self.assert_fewest(one, other, ends, 0)
            if told is None:
                self.assertIsNone(found)
                continue
            self.assertEqual((found.kind, found.told), ("moment", told))
            if place is not None:
                self.assertEqual(found.place, place)
            else:
                left = found.window[0]
                due = max(left, FIRST + 1) if ends == "half" or left == FIRST else left + 1
                self.assertEqual(found.place, due)

    def test_both_ends(self):
        touching = Loop("begin", each=[Rule(do=[("put", "begin", "begin")])])
        self.assertIsNone(parting(touching, Loop("begin")))
        found = parting(touching, Loop("begin"), ends=Ends.SHUT)
        self.assertEqual(seen(found), ("moment", found.witness[0][0], (1, 0)))
        self.assertEqual(found.place, found.witness[0][0])

    def test_window(self):
        self.assertIsNone(parting(known.joining(), known.joining("begin", skips=False), ends="shut").window)
        uses = Loop("begin", behind=[Rule(("==", "left", "first"), do=[("add", 1)])])
        for one, other in [(uses, Loop("begin")), (Loop("begin"), uses)]:
            found = self.assert_fewest(one, other, "half", 0)
            self.assertEqual(found.window[0], FIRST)
            self.assertEqual(found.kind, "number")
        found = self.assert_fewest(Loop("begin", behind=[Rule(("==", "right", "last"), do=[("add", 1)])]), Loop("begin"), "half", 0)
        self.assertEqual(found.window[1], LAST)


class DecidesTest(PartingCase):

    def test_loops_that_are_alike(self):
        for one, other, both in ALIKE:
            for ends in ENDS:
                with self.subTest(one=one.order, each=[(rule.tests, rule.deeds) for rule in one.each], ends=ends):
                    self.assertIs(alike(one, other, ends=ends), ends in both)
                    self.assertIs(alike(other, one, ends=ends), ends in both)
                    self.assertEqual(parting(one, other, ends=ends) is None, ends in both)

    def test_alike_loops_part_on_no_long_list(self):
        source = random.Random(5)
        for one, other, both in ALIKE:
            items, windows = oracle.all_items(one.reads == "events", 5), oracle.all_windows(5)
            for _ in range(80):
                rows, window = source.choices(items, k=source.randint(0, 8)), source.choice(windows)
                for ends in both:
                    self.assertIsNone(oracle.parting(one, other, rows, window, ends))

    def test_loops_that_part_on_long_lists_only(self):
        counts = [Rule(("unset", "low"), do=[("keep", "low", "begin")]), Rule(("unset", "high"), do=[("keep", "high", "low")]),
                  Rule(("unset", "mark"), do=[("keep", "mark", "low")]), Rule(do=[("say", True)])]
        for many in range(1, 4):
            for order in STRETCH_ORDERS[:2] + STRETCH_ORDERS[4:5]:
                one = Loop(order, each=counts[:many] + counts[3:])
                found = self.assert_fewest(one, Loop(order), "half", min(many, 2))
                self.assertEqual((len(found.witness), seen(found)), (many + 1, ("answer", None, (True, None))))
        # Four begins that ascend, or else those that ascend and then differ.
        rising = [Rule(("unset", "low"), do=[("keep", "low", "begin")]),
                  Rule(("unset", "high"), ("<", "low", "begin"), do=[("keep", "high", "begin")]),
                  Rule(("unset", "mark"), ("set", "high"), ("<", "high", "begin"), do=[("keep", "mark", "begin")])]
        last = Rule(("set", "mark"), ("<", "mark", "begin"), do=[("add", 1)])
        found = parting(Loop("any", each=rising + [last]), Loop("any"))
        self.assert_parts(found, Loop("any", each=rising + [last]), Loop("any"), "half")
        self.assertEqual((len(found.witness), found.kind, found.told), (4, "number", (1, 0)))
        found = parting(Loop("end", each=rising + [last]), Loop("end", each=rising[:1]))
        self.assertEqual((len(found.witness), found.kind, found.told), (4, "number", (1, 0)))

    def test_partings_over_events(self):
        ins = [Rule(("in",), ("unset", "low"), do=[("keep", "low", "at")]),
               Rule(("out",), ("set", "low"), ("==", "low", "at"), do=[("add", 1)])]
        for order, fewest in [("at", 2), ("at in", 2), ("at out", None)]:
            found = self.assert_fewest(Loop(order, each=ins), Loop(order), "half", 3)
            self.assertEqual(found and len(found.witness), fewest)
        # Equal events, and other ones at the same edge, follow each other as the order lets them.
        for first, second, due in [("in", "in", (2, 2, 2)), ("out", "out", (2, 2, 2)), ("in", "out", (2, 2, None)), ("out", "in", (2, None, 2))]:
            twice = [Rule((second,), ("set", "low"), ("==", "low", "at"), do=[("add", 1)]), Rule((first,), do=[("keep", "low", "at")])]
            for order, fewest in zip(EVENT_ORDERS, due):
                found = self.assert_fewest(Loop(order, each=twice), Loop(order, each=twice[1:]), "half", 3)
                self.assertEqual(found and (found.kind, len(found.witness)), fewest and ("number", fewest))
        for order in EVENT_ORDERS:
            found = self.assert_fewest(known.switches(order), known.switches_in_one_form(order), "shut", 3)
            self.assertIsNotNone(found)
            late = Loop(order, each=[Rule(("in",), ("unset", "low"), do=[("keep", "low", "at")]),
                                     Rule(("out",), ("set", "low"), ("unset", "high"), do=[("keep", "high", "at")]),
                                     Rule(("in",), ("set", "high"), ("<", "high", "at"), do=[("put", "low", "at")])])
            found = self.assert_fewest(late, Loop(order), "half", 3)
            self.assertEqual((len(found.witness), found.kind, found.told), (3, "moment", (1, 0)))

    def test_changed_loops(self):
        for loop, _ in known.RIGHT[::3]:
            if loop.uses_window or len(loop.registers) > 1:
                continue
            for other in mutants(loop):
                if other.order == loop.order:
                    for ends in ENDS:
                        self.assert_fewest(loop, other, ends, 2)

    def test_changed_loops_of_two_registers_or_with_a_window(self):
        for loop in (known.joining(), known.held_by_all(), known.switches_in_one_form("at in"), known.gaps_in_window(),
                     known.covering(), known.each_in_window(), known.busy_half()):
            for other in mutants(loop):
                if other.order == loop.order:
                    self.assert_fewest(loop, other, "half", 1)


class PartingErrorTest(unittest.TestCase):

    def test_wrong_ends_ahead_of_all(self):
        for call in (parting, alike):
            for wrong in NO_ENDS:
                with self.assertRaises(BadEnds) as caught:
                    call(Loop("any", each=[KEEP_ALL]), Loop("at", ahead=[Rule(do=[("keep", "low", "left")])]), ends=wrong)
                self.assertEqual(repr(caught.exception.ends), repr(wrong))

    def test_other_orders_ahead_of_too_wide(self):
        wide = [KEEP_ALL]
        for call in (parting, alike):
            for order in STRETCH_ORDERS + EVENT_ORDERS:
                for other in STRETCH_ORDERS:
                    if order != other:
                        each = wide if order in STRETCH_ORDERS else []
                        with self.assertRaises(BadOrder) as caught:
                            call(Loop(other, each=wide), Loop(order, each=each))
                        self.assertEqual(caught.exception.order, order)

    def test_too_wide(self):
        window = Rule(("<", "left", "right"))
        for order, one, other, wide in [
            ("any", [KEEP_ALL], [KEEP_BOTH], False), ("any", [KEEP_ALL], [KEEP_ALL], True),
            ("begin", [KEEP_BOTH], [KEEP_BOTH], False), ("begin", [KEEP_ALL], [KEEP_LOW], False),
            ("begin", [KEEP_ALL], [KEEP_BOTH], True), ("end", [KEEP_BOTH], [KEEP_ALL], True),
            ("begin end", [KEEP_BOTH], [KEEP_LOW], False), ("begin end", [KEEP_BOTH], [KEEP_BOTH], True),
            ("end back", [KEEP_ALL], [], False), ("end back", [KEEP_ALL], [KEEP_LOW], True),
            ("any", [window, KEEP_BOTH], [KEEP_LOW], False), ("any", [KEEP_BOTH], [window, KEEP_LOW], False),
            ("any", [window, KEEP_BOTH], [window, KEEP_LOW], False), ("any", [window, KEEP_BOTH], [KEEP_BOTH], True),
            ("any", [KEEP_BOTH], [window, KEEP_BOTH], True), ("begin", [window, KEEP_LOW], [KEEP_LOW], False),
            ("begin", [window, KEEP_BOTH], [KEEP_LOW], True), ("begin back", [window], [KEEP_LOW], False),
            ("begin back", [window, KEEP_LOW], [KEEP_LOW], True),
        ]:
            one, other = Loop(order, each=one), Loop(order, each=other)
            for call in (parting, alike):
                if wide:
                    for ends in ENDS:
                        with self.assertRaises(TooWide) as caught:
                            call(one, other, ends=ends)
                        self.assertEqual(caught.exception.limit, 5)
                else:
                    call(one, other)

    def test_too_wide_over_events(self):
        at_low = Rule(do=[("keep", "low", "at")])
        at_both = Rule(do=[("keep", "low", "at"), ("keep", "high", "low")])
        at_all = Rule(do=[("keep", "low", "at"), ("keep", "high", "low"), ("drop", "mark")])
        for order in EVENT_ORDERS:
            self.assertTrue(alike(Loop(order, each=[at_both]), Loop(order, each=[at_both])))
            self.assertTrue(alike(Loop(order, each=[at_all]), Loop(order, each=[at_low])))
            for one, other in [(at_all, at_both), (at_both, at_all), (at_all, at_all)]:
                with self.assertRaises(TooWide) as caught:
                    parting(Loop(order, each=[one]), Loop(order, each=[other]))
                self.assertEqual(caught.exception.limit, 5)

    def test_attributes(self):
        found = Parting((1,), (2, 3), "kind", 4, (5, 6))
        self.assertEqual((found.witness, found.window, found.kind, found.place, found.told), ((1,), (2, 3), "kind", 4, (5, 6)))
        found = Parting(witness=(), window=None, kind="number", place=None, told=(0, 1))
        self.assertEqual((found.witness, found.window, found.kind, found.place, found.told), ((), None, "number", None, (0, 1)))
        self.assertFalse(found == 5)

    def test_twice_the_same(self):
        first = vars(parting(known.joining(), join_otherwise("begin"), ends="shut") or Parting(0, 0, 0, 0, 0))
        told = [vars(parting(known.joining(), known.joining(skips=False), ends="shut")) for _ in range(2)]
        again = vars(parting(known.joining(), join_otherwise("begin"), ends="shut") or Parting(0, 0, 0, 0, 0))
        self.assertEqual((first, told[0]), (again, told[1]))


NEEDS = [
    (known.counting(), Number("all"), ("any",)),
    (known.counting(skips=True), Number("full"), ("any",)),
    (known.counting(), Number("full"), ()),
    (known.counting_pieces(), Number("pieces"), ("begin",)),
    (known.counting_pieces(skips=False), Number("pieces", ends="shut"), ("begin",)),
    (known.counting_pieces(skips=False), Number("pieces"), ()),
    (known.clashing(), Answer("clash"), ("begin",)),
    (known.held_by_all(), Moments("all"), ("any",)),
    (known.joining("any"), Moments("some"), ("begin",)),
    (known.joining(skips=False), Moments("some", ends="shut"), ("begin",)),
    (known.joining(), Moments("none"), ()),
    (join_at_once("end back"), Moments("some", form="full"), ("begin",)),
    (known.busy_half(), Answer("busy"), ("any",)),
    (known.each_in_window("end back"), Moments("each", within=True, form="full"), ("any",)),
    (known.gaps_everywhere("begin end"), Moments("none"), ("begin",)),
    (known.switches("at out"), Moments("inside", form="any"), ("at",)),
    (known.switches(), Moments("inside", form="full"), ("at out",)),
    (known.switches("at in"), Moments("inside"), ()),
    (known.switches_in_one_form("at in"), Moments("inside"), ("at",)),
    (Loop("begin end", each=[Rule(("unset", "low"), do=[("keep", "low", "begin")]),
                             Rule(("<", "begin", "low"), do=[("add", 1)])]), Number("all"), ()),
]


class NeedsTest(unittest.TestCase):

    def test_known_needs(self):
        for loop, wish, due in NEEDS:
            with self.subTest(order=loop.order, wish=vars(wish)):
                self.assertEqual(needs(loop, wish), due)
                self.assertEqual(needs(wish=wish, loop=loop), due)

    def test_needs_of_longer_orders(self):
        # Each stretch ends no later than one with the same begin that was read before it.
        hides = Loop("any", each=[
            Rule(("set", "low"), ("==", "low", "begin"), ("<", "high", "end"), do=[("put", "low", "low"), ("add", 1)]),
            Rule(do=[("keep", "low", "begin"), ("keep", "high", "end"), ("add", 1)]),
        ])
        self.assertEqual(needs(hides, Number("all")), ("any",))
        counts = [Rule(("set", "low"), ("==", "low", "begin"), ("<", "high", "end"), do=[("keep", "high", "end")]),
                  Rule(do=[("keep", "low", "begin"), ("keep", "high", "end"), ("add", 1)])]
        self.assertEqual(needs(Loop("any", each=counts), Number("all")), ("begin back",))
        breaks = [Rule(("set", "low"), ("==", "low", "begin"), ("<", "high", "end"), do=[("drop", "low"), ("put", "low", "low")]),
                  Rule(do=[("keep", "low", "begin"), ("keep", "high", "end"), ("add", 1)])]
        self.assertEqual(needs(Loop("any", each=breaks), Number("all")), ("begin back",))
        turned = [Rule(("set", "low"), ("==", "low", "begin"), ("<", "end", "high"), do=[("drop", "low"), ("put", "low", "low")]),
                  Rule(do=[("keep", "low", "begin"), ("keep", "high", "end"), ("add", 1)])]
        self.assertEqual(needs(Loop("end", each=turned), Number("all")), ("begin end", "end"))
        both = [Rule(("set", "low"), ("<", "begin", "low"), do=[("drop", "low"), ("put", "low", "low")]),
                Rule(do=[("keep", "low", "begin"), ("add", 1)])]
        self.assertEqual(needs(Loop("any", each=both), Number("all")), ("begin",))
        late = [Rule(("set", "high"), ("<", "end", "high"), ("<", "begin", "low"), do=[("drop", "low"), ("put", "low", "low")]),
                Rule(do=[("keep", "low", "begin"), ("keep", "high", "end"), ("add", 1)])]
        self.assertEqual(needs(Loop("begin back", each=late), Number("all")), ("begin", "end"))

    def test_agrees_with_the_judge(self):
        weaker = {"begin end": ("any", "begin"), "begin back": ("any", "begin"), "end begin": ("any", "end"),
                  "end back": ("any", "end"), "begin": ("any",), "end": ("any",), "at in": ("at",), "at out": ("at",)}
        asked = [(loop, wish) for loop, wish, _ in NEEDS] + [
            (other, wish) for loop, wish, _ in NEEDS[3:5] + NEEDS[15:18] for other in mutants(loop) if other.order == loop.order]
        for loop, wish in asked:
            orders = EVENT_ORDERS if loop.reads == "events" else STRETCH_ORDERS
            if wish.wants_begins:
                orders = STRETCH_ORDERS[1:4]
            right = [order for order in orders if judge(loop.by(order), wish)]
            due = tuple(order for order in right if not set(weaker.get(order, ())) & set(right))
            self.assertEqual(needs(loop, wish), due)

    def test_unfit_ahead_of_too_wide(self):
        wide = Loop("any", each=[KEEP_ALL])
        for loop, wish in [(wide, Moments("inside")), (Loop("any"), Moments("inside")), (Loop("at"), Number("all")),
                           (Loop("at", each=[Rule(do=[("keep", "low", "left"), ("drop", "high")])]), Answer("busy"))]:
            with self.assertRaises(Unfit) as caught:
                needs(loop, wish)
            self.assertIs(caught.exception.wish, wish)

    def test_too_wide(self):
        window = Rule(("<", "left", "right"))
        for each, wish, wide in [
            ([KEEP_BOTH], Number("all"), False), ([KEEP_ALL], Number("all"), True), ([window], Number("all"), False),
            ([], Number("left"), False), ([window], Number("left"), False), ([KEEP_LOW], Number("left"), True),
            ([window, KEEP_LOW], Number("all"), True), ([KEEP_LOW], Moments("each", within=True), True),
            ([KEEP_LOW], Moments("each", form="cut"), True), ([KEEP_BOTH], Moments("each"), False),
            ([KEEP_LOW], Answer("covered"), True), ([KEEP_BOTH], Answer("clash"), False),
        ]:
            loop = Loop("end begin", each=each)
            if wide:
                with self.assertRaises(TooWide) as caught:
                    needs(loop, wish)
                self.assertEqual(caught.exception.limit, 2)
            else:
                self.assertIsInstance(needs(loop, wish), tuple)


class BearsTest(unittest.TestCase):

    def test_ends_that_a_loop_bears(self):
        for loop, wish, due in [
            (known.counting(), Number("all"), ENDS),
            (known.counting(), Number("full"), ("shut",)),
            (known.counting(skips=True), Number("full"), ("half",)),
            (known.joining(), Moments("some"), ("half",)),
            (known.joining(skips=False), Moments("some"), ("shut",)),
            (known.joining(skips=False), Moments("some", form="any"), ENDS),
            (known.joining(), Moments("all"), ()),
            (known.gaps_everywhere(), Moments("none"), ("half",)),
            (known.busy_half(), Answer("busy"), ("half",)),
            (known.busy_shut(), Answer("busy"), ("shut",)),
            (known.switches(), Moments("inside", form="any"), ("half",)),
            (known.each_as_it_is(skips=False), Moments("each", form="any"), ENDS),
            (known.counting(("<=", "left", "begin"), ("<=", "end", "right")), Number("within"), ENDS),
        ]:
            with self.subTest(order=loop.order, wish=vars(wish)):
                for ends in ENDS:
                    self.assertEqual(bears(loop, wish.by(ends)), due)
                self.assertEqual(bears(wish=wish, loop=loop), due)
                self.assertEqual(due, tuple(ends for ends in ENDS if judge(loop, wish.by(ends))))

    def test_errors(self):
        wide = Loop("end", each=[KEEP_ALL, Rule(("<", "left", "begin"))])
        for wish in (Moments("inside"), Moments("inside", ends="shut")):
            with self.assertRaises(Unfit) as caught:
                bears(wide, wish)
            self.assertIs(caught.exception.wish, wish)
        for ends in ENDS:
            with self.assertRaises(BadOrder) as caught:
                bears(wide, Answer("clash", ends=ends))
            self.assertEqual(caught.exception.order, "end")
            with self.assertRaises(TooWide) as caught:
                bears(wide, Number("all", ends=ends))
            self.assertEqual(caught.exception.limit, 4)
        self.assertEqual(bears(Loop("end", each=[KEEP_ALL]), Number("all")), ())
        with self.assertRaises(TooWide):
            bears(Loop("end back", each=[KEEP_ALL]), Number("all"))


if __name__ == "__main__":
    unittest.main()
