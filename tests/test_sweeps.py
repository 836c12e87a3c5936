"""Sweeps: changes, readings, the greatest, the peak, spans at a level."""

import itertools
import random
import unittest

from spanloops.errors import BadItem, BadLevel, BadSweep
from spanloops.spans import FIRST, LAST, Span
from spanloops.sweeps import Sweep
from tests import oracle
from tests.samples import FAR, NO_STRETCHES, ODD_OBJECTS
from tests.test_rules import EVENT_ORDERS, STRETCH_ORDERS

TIES = ("ends", "begins", "list")
FLAGS = ("settles", "skips", "glues", "drops")
DEFAULTS = {"order": "any", "ties": "ends", "settles": False, "skips": False, "glues": False, "drops": False}
NAMES = list(DEFAULTS)

SWEEPS = [Sweep(order=order, ties=ties, **dict(zip(FLAGS, flags))) for order in STRETCH_ORDERS for ties in TIES
          for flags in itertools.product([False, True], repeat=4)]
SMALL = [(0, 2), (0, 4), (2, 2), (2, 4), (3, 3)]


def lists():
    """Short lists with equal, nested, touching, empty and open-ended stretches, and longer random ones."""
    source = random.Random(4)
    found = [list(rows) for count in range(3) for rows in itertools.product(SMALL + [(FIRST, 2), (2, LAST)], repeat=count)]
    spans = SMALL + [(FIRST, 2), (FIRST, LAST), (2, LAST), (-5, 3), (FAR, FAR), (-FAR, FAR), (4, 9), (4, 4)]
    return found + [source.choices(spans, k=source.randint(3, 9)) for _ in range(60)]


LISTS = lists()


class OptionTest(unittest.TestCase):

    def test_attributes_and_defaults(self):
        sweep = Sweep()
        self.assertEqual({name: getattr(sweep, name) for name in NAMES}, DEFAULTS)
        for name in FLAGS:
            self.assertIs(getattr(sweep, name), False)
            self.assertIs(getattr(Sweep(**{name: True}), name), True)
        sweep = Sweep(drops=False, glues=True, skips=True, settles=False, ties="list", order="end back")
        self.assertEqual([getattr(sweep, name) for name in NAMES], ["end back", "list", False, True, True, False])

    def test_by_keyword_only(self):
        with self.assertRaises(TypeError):
            Sweep("any")

    def test_wrong_options(self):
        no_flags = [0, 1, 2, None, "", "True", "x", [], (), [True], (True,), Span(0, 1)] + ODD_OBJECTS[3:]
        no_orders = [0, 1, "", "begin  end", "BEGIN", ["any"], ("any",), Span(0, 1)] + list(EVENT_ORDERS) + ODD_OBJECTS
        no_ties = [0, 1, "", "end", "begin", "any", "Ends", "ends ", ["ends"], Span(0, 1)] + ODD_OBJECTS
        wrong = {"order": no_orders, "ties": no_ties, **{name: no_flags for name in FLAGS}}
        for at, name in enumerate(NAMES):
            for odd in wrong[name]:
                for later in NAMES[at:]:
                    with self.assertRaises(BadSweep) as caught:
                        Sweep(**{name: odd, later: odd if later == name else 5})
                    self.assertEqual(caught.exception.word, name)

    def test_equality(self):
        for one, other in itertools.product(SWEEPS[::17], SWEEPS[::13]):
            due = all(getattr(one, name) == getattr(other, name) for name in NAMES)
            self.assertIs(one == other, due)
            self.assertIs(one != other, not due)
        for name, value in [("order", "end"), ("ties", "list")] + [(flag, True) for flag in FLAGS]:
            self.assertNotEqual(Sweep(), Sweep(**{name: value}))
            self.assertEqual(Sweep(**{name: value}), Sweep(**{name: value}))
        for other in (5, None, "Sweep()", Span(0, 1), ("any", "ends", False, False, False, False)):
            self.assertFalse(Sweep() == other)

    def test_repr(self):
        self.assertEqual(repr(Sweep()), "Sweep()")
        self.assertEqual(repr(Sweep(ties="list", skips=True)), "Sweep(ties='list', skips=True)")
        self.assertEqual(repr(Sweep(drops=True, glues=True, skips=True, settles=True, ties="begins", order="begin end")),
                         "Sweep(order='begin end', ties='begins', settles=True, skips=True, glues=True, drops=True)")
        for sweep in SWEEPS:
            self.assertEqual(eval(repr(sweep)), sweep)
            self.assertEqual(repr(sweep).count("="), sum(getattr(sweep, name) != DEFAULTS[name] for name in NAMES))

    def test_by(self):
        for sweep in SWEEPS[::11]:
            for order in STRETCH_ORDERS:
                made = sweep.by(order)
                self.assertEqual(made, Sweep(**{**{name: getattr(sweep, name) for name in NAMES}, "order": order}))
                self.assertEqual(sweep.by(order=sweep.order), sweep)
            for wrong in ["at", "", 5, None, True, ["any"]]:
                with self.assertRaises(BadSweep) as caught:
                    sweep.by(wrong)
                self.assertEqual(caught.exception.word, "order")


class ReadingTest(unittest.TestCase):

    def test_ties(self):
        spans = [(2, 4), (0, 2), (2, 2)]
        for ties, changes, levels in [
            ("ends", [(0, 1), (2, -1), (2, -1), (2, 1), (2, 1), (4, -1)], [1, 0, -1, 0, 1, 0]),
            ("begins", [(0, 1), (2, 1), (2, 1), (2, -1), (2, -1), (4, -1)], [1, 2, 3, 2, 1, 0]),
            ("list", [(0, 1), (2, 1), (2, -1), (2, 1), (2, -1), (4, -1)], [1, 2, 1, 2, 1, 0]),
        ]:
            sweep = Sweep(ties=ties)
            self.assertEqual(sweep.changes(spans), changes)
            self.assertEqual(list(sweep.readings(spans)), [(edge, level) for (edge, _), level in zip(changes, levels)])
            self.assertEqual(list(Sweep(ties=ties, settles=True).readings(spans)), [(0, 1), (2, 1), (4, 0)])
        self.assertEqual(Sweep(ties="list", order="begin").changes(spans), [(0, 1), (2, -1), (2, 1), (2, 1), (2, -1), (4, -1)])
        self.assertEqual(Sweep(ties="list", order="begin end").changes(spans), [(0, 1), (2, -1), (2, 1), (2, -1), (2, 1), (4, -1)])
        self.assertEqual(Sweep(ties="list", skips=True).changes(spans), [(0, 1), (2, 1), (2, -1), (4, -1)])
        self.assertEqual(list(Sweep().readings([(3, 3)])), [(3, -1), (3, 0)])
        self.assertEqual(list(Sweep(settles=True).readings([(3, 3)])), [(3, 0)])

    def test_all_sweeps(self):
        for sweep in SWEEPS:
            for spans in LISTS[::5]:
                kept = list(spans)
                self.assertEqual(sweep.changes(spans), oracle.changes(sweep, spans))
                told = list(sweep.readings(tuple(spans)))
                self.assertEqual(told, oracle.readings(sweep, spans))
                self.assertTrue(not told or told[-1][1] == 0)
                self.assertEqual(spans, kept)
                self.assertTrue(all(isinstance(row, tuple) for row in told + sweep.changes(spans)))

    def test_many_stretches(self):
        source = random.Random(9)
        spans = [tuple(sorted(source.choices(range(40), k=2))) for _ in range(300)]
        for sweep in SWEEPS[::29]:
            self.assertEqual(sweep.changes(spans), oracle.changes(sweep, spans))
            self.assertEqual(list(sweep.readings(spans)), oracle.readings(sweep, spans))
            self.assertEqual(sweep.peak(spans), oracle.peak(sweep, spans))
            self.assertEqual(sweep.spans_at(spans, 3), oracle.spans_at(sweep, spans, 3, False))
        self.assertEqual(Sweep()([(0, 1)] * 300), 300)

    def test_two_generators_in_turn(self):
        one, other = Sweep().readings([(0, 3), (1, 2)]), Sweep(ties="list", settles=True).readings([(5, 6), (5, 9)])
        told = [next(one), next(other), next(one), next(other), next(one), next(other), next(one)]
        self.assertEqual(told, [(0, 1), (5, 2), (1, 2), (6, 1), (2, 1), (9, 0), (3, 0)])
        self.assertEqual((list(one), list(other)), ([], []))
        sweep = Sweep(ties="begins")
        one, other = sweep.readings([(0, 1)]), sweep.readings([(0, 1)])
        self.assertEqual([next(one), next(other), sweep([(0, 9), (1, 2)]), next(one), next(other)],
                         [(0, 1), (0, 1), 2, (1, 0), (1, 0)])

    def test_wrong_members(self):
        for sweep in (Sweep(), Sweep(order="end", ties="list", settles=True, skips=True, glues=True, drops=True)):
            for call in (sweep, sweep.changes, lambda spans: next(sweep.readings(spans)), sweep.peak,
                         lambda spans: sweep.spans_at(spans, "no level")):
                for wrong in NO_STRETCHES + [("in", 5)]:
                    with self.assertRaises(BadItem) as caught:
                        call([(3, 3), (0, 1), wrong, (0, 2), 7])
                    self.assertEqual(caught.exception.index, 2)
                    with self.assertRaises(BadItem) as caught:
                        call((wrong,))
                    self.assertEqual(caught.exception.index, 0)


class PeakTest(unittest.TestCase):

    def test_greatest_and_peak(self):
        for sweep, spans, greatest, peak in [
            (Sweep(), [], 0, None),
            (Sweep(), [(3, 3)], 0, None),
            (Sweep(), [(3, 3), (5, 5)], 0, None),
            (Sweep(ties="begins"), [(3, 3)], 1, (3, 3, 1)),
            (Sweep(ties="begins", settles=True), [(3, 3)], 0, None),
            (Sweep(ties="begins", skips=True), [(3, 3)], 0, None),
            (Sweep(), [(0, 2), (2, 4)], 1, (0, 2, 1)),
            (Sweep(ties="begins"), [(0, 2), (2, 4)], 2, (2, 2, 2)),
            (Sweep(settles=True), [(0, 2), (2, 4)], 1, (0, 4, 1)),
            (Sweep(), [(6, 9), (6, 8), (0, 4), (1, 3)], 2, (1, 3, 2)),
            (Sweep(), [(0, 9), (1, 3), (3, 5), (6, 7)], 2, (1, 3, 2)),
            (Sweep(settles=True), [(0, 9), (1, 3), (3, 5), (6, 7)], 2, (1, 5, 2)),
            (Sweep(), [(FIRST, LAST), (FIRST, 3)], 2, (FIRST, 3, 2)),
            (Sweep(), [(FIRST, LAST)], 1, (FIRST, LAST, 1)),
            (Sweep(ties="list"), [(2, 4), (0, 2)], 2, (2, 2, 2)),
            (Sweep(ties="list", order="begin"), [(2, 4), (0, 2)], 1, (0, 2, 1)),
        ]:
            self.assertEqual((sweep(spans), sweep.peak(spans)), (greatest, peak), (sweep, spans))
            self.assertEqual((sweep(spans=spans), sweep.peak(spans=tuple(spans))), (greatest, peak))

    def test_all_sweeps(self):
        for sweep in SWEEPS:
            for spans in LISTS[::3]:
                due = oracle.peak(sweep, spans)
                self.assertEqual(sweep.peak(spans), due)
                self.assertEqual(sweep(spans), due[2] if due else 0)


class SpansAtTest(unittest.TestCase):

    def test_glues_and_drops(self):
        touching, empty = [(0, 2), (2, 4)], [(0, 2), (2, 2), (2, 4), (5, 5)]
        for sweep, spans, due in [
            (Sweep(), touching, [(0, 2), (2, 4)]), (Sweep(glues=True), touching, [(0, 4)]),
            (Sweep(ties="list"), empty, [(0, 2), (2, 2), (2, 4), (5, 5)]),
            (Sweep(ties="list", drops=True), empty, [(0, 2), (2, 4)]),
            (Sweep(ties="list", glues=True), empty, [(0, 4), (5, 5)]),
            (Sweep(ties="list", glues=True, drops=True), empty, [(0, 4)]),
            (Sweep(ties="list", skips=True), empty, [(0, 2), (2, 4)]),
            (Sweep(settles=True), empty, [(0, 4)]),
            # What is glued may be empty itself, and so may what it is glued to.
            (Sweep(ties="list", glues=True), [(2, 2), (2, 2)], [(2, 2)]),
            (Sweep(ties="list", glues=True), [(2, 2), (2, 4)], [(2, 4)]),
            (Sweep(ties="list", glues=True), [(0, 2), (2, 2)], [(0, 2)]),
        ]:
            self.assertEqual(sweep.spans_at(spans, 1), due, (sweep, spans))
            self.assertEqual(sweep.spans_at(level=1, spans=tuple(spans)), due)

    def test_levels_and_exactly(self):
        spans = [(0, 9), (1, 8), (2, 7), (3, 6), (4, 5)]
        for level in range(1, 5):
            self.assertEqual(Sweep().spans_at(spans, level), [(level - 1, 10 - level)])
            self.assertEqual(Sweep().spans_at(spans, level, exactly=True), [(level - 1, level), (9 - level, 10 - level)])
            self.assertEqual(Sweep().spans_at(spans, level, exactly=False), [(level - 1, 10 - level)])
        self.assertEqual(Sweep().spans_at([(0, 2), (0, 2)], 1, exactly=True), [(0, 0), (2, 2)])
        with self.assertRaises(TypeError):
            Sweep().spans_at(spans, 1, True)

    def test_all_sweeps(self):
        for sweep in SWEEPS:
            for spans in LISTS[::11]:
                for level in range(1, 5):
                    for exactly in (False, True):
                        made = sweep.spans_at(spans, level, exactly=exactly)
                        self.assertEqual(made, oracle.spans_at(sweep, spans, level, exactly), (sweep, spans))
                        self.assertIsInstance(made, list)

    def test_wrong_levels(self):
        for wrong in [0, -1, 5, 6, 10 ** 39, Span(0, 1)] + ODD_OBJECTS:
            for exactly in (False, True):
                with self.assertRaises(BadLevel) as caught:
                    Sweep().spans_at([(0, 1)], wrong, exactly=exactly)
                self.assertEqual(repr(caught.exception.level), repr(wrong))
            with self.assertRaises(BadItem):
                Sweep().spans_at([(0, 1), (1, 0)], wrong)

    def test_a_new_list_at_each_call(self):
        sweep, spans = Sweep(), [(0, 2), (1, 5)]
        for call in (sweep.changes, lambda spans: sweep.spans_at(spans, 1), lambda spans: list(sweep.readings(spans))):
            first = call(spans)
            kept = list(first)
            first.append("more")
            sweep.peak([(0, 9)])
            self.assertEqual(call(spans), kept)
        self.assertEqual(spans, [(0, 2), (1, 5)])


if __name__ == "__main__":
    unittest.main()
