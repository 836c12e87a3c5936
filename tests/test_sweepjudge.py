"""Which sweeps are right, with which orders, and with which options."""

import itertools
import unittest

from spanloops.errors import BadEnds, BadLevel, BadWish
from spanloops.spans import FIRST, LAST, Span, is_stretch
from spanloops.sweepjudge import SweepVerdict, judge_sweep, sweep_needs, sweep_remedies
from spanloops.sweeps import Sweep
from tests import oracle
from tests.samples import FAR, NO_ENDS, ODD_OBJECTS
from tests.test_rules import STRETCH_ORDERS
from tests.test_sweeps import FLAGS, LISTS, SWEEPS, TIES

ENDS = ("half", "shut")
WISHES = ("greatest", "peak", "least", "exactly")
NAMES = ("drops", "glues", "settles", "skips")
SPANS = [(0, 2), (0, 4), (2, 2), (2, 4)]
CALLS = (judge_sweep, sweep_needs, sweep_remedies)

MOMENTS = oracle.moments_near(SPANS + [span for spans in LISTS for span in spans])


def depths(spans, ends):
    return [oracle.depth(spans, moment, ends) for moment in MOMENTS]


def due_peak(spans, ends):
    """The wished peak, by [30]."""
    held = depths(spans, ends)
    greatest = max(held)
    if greatest == 0:
        return None
    first = MOMENTS[held.index(greatest)]
    if ends == "shut":
        end = min(span[1] for span in spans if oracle.holds(span, first, ends))
    else:
        later = [moment for moment, depth in zip(MOMENTS, held) if moment > first and depth < greatest]
        end = later[0] if later else LAST
    return (FIRST if first == FIRST + 1 else first, end, greatest)


def fault(sweep, wish, spans, level, ends):
    """What the sweep has and what is due, by [31]; None if it is the wished."""
    if wish == "greatest":
        told, due = (oracle.peak(sweep, spans) or (0, 0, 0))[2], max(depths(spans, ends))
    elif wish == "peak":
        told, due = oracle.peak(sweep, spans), due_peak(spans, ends)
    else:
        rows = oracle.spans_at(sweep, spans, level, wish == "exactly")
        on = [depth == level or (depth > level and wish == "least") for depth in depths(spans, ends)]
        held = [any(oracle.holds(row, moment, ends) for row in rows) for moment in MOMENTS]
        return None if rows == oracle.union(rows, ends) and on == held else (tuple(rows), None)
    return None if told == due else (told, due)


def fewest(sweep, wish, level, ends, most):
    """The least number of stretches, up to `most`, of a list of SPANS with a fault; None if there is none."""
    for count in range(most + 1):
        for spans in itertools.product(SPANS, repeat=count):
            if fault(sweep, wish, list(spans), level, ends):
                return count
    return None


class SweepVerdictTest(unittest.TestCase):

    def assert_verdict(self, sweep, wish, level, ends, due):
        """The verdict has a witness with so many stretches, or none if `due` is None."""
        verdict = judge_sweep(sweep, wish, level=level, ends=ends)
        self.assertIsInstance(verdict, SweepVerdict)
        self.assertIs(verdict.right, due is None)
        self.assertIs(bool(verdict), due is None)
        self.assertEqual(len(verdict), due or 0, (sweep, wish, level, ends))
        if due is None:
            self.assertEqual((verdict.witness, verdict.told, verdict.due), (None, None, None))
        else:
            self.assertIsInstance(verdict.witness, tuple)
            self.assertEqual(len(verdict.witness), due)
            for span in verdict.witness:
                self.assertTrue(is_stretch(span) and -FAR <= span[0] and span[1] <= FAR)
            told = fault(sweep, wish, list(verdict.witness), level, ends)
            self.assertEqual(repr(told), repr((verdict.told, verdict.due)))

    def test_known_verdicts(self):
        for sweep, wish, level, ends, due in [
            (Sweep(), "greatest", 1, "half", None), (Sweep(), "peak", 1, "half", 2),
            (Sweep(settles=True), "peak", 1, "half", None), (Sweep(), "greatest", 1, "shut", 1), (Sweep(), "peak", 1, "shut", 1),
            (Sweep(), "least", 1, "half", 2), (Sweep(), "least", 2, "half", 3), (Sweep(), "least", 3, "half", 4),
            (Sweep(), "least", 4, "half", 5),
            (Sweep(glues=True), "least", 1, "half", None), (Sweep(glues=True), "least", 4, "half", None),
            (Sweep(settles=True), "least", 4, "half", None),
            (Sweep(ties="begins"), "greatest", 1, "half", 1), (Sweep(ties="begins"), "greatest", 1, "shut", None),
            (Sweep(ties="begins"), "peak", 1, "shut", None), (Sweep(ties="begins"), "least", 1, "half", 1),
            (Sweep(ties="begins"), "least", 2, "half", 2), (Sweep(ties="begins"), "least", 4, "half", 4),
            (Sweep(ties="begins"), "least", 4, "shut", None), (Sweep(ties="begins"), "exactly", 1, "shut", 2),
            (Sweep(ties="begins", skips=True), "greatest", 1, "half", 2),
            (Sweep(ties="list", skips=True), "greatest", 1, "half", 2),
            (Sweep(ties="list", skips=True, order="begin"), "greatest", 1, "half", None),
            (Sweep(ties="list", skips=True, order="end back"), "greatest", 3, "half", None),
        ]:
            with self.subTest(sweep=sweep, wish=wish, level=level, ends=ends):
                self.assert_verdict(sweep, wish, level, ends, due)

    def test_trying_all_lists(self):
        for sweep in SWEEPS[::7]:
            for wish in WISHES:
                for level in (1, 2) if wish in ("least", "exactly") else (1, 4):
                    for ends in ENDS:
                        due = fewest(sweep, wish, level, ends, level + 1 if wish in ("least", "exactly") else 2)
                        self.assert_verdict(sweep, wish, level, ends, due)

    def test_higher_levels(self):
        for sweep in SWEEPS[::19]:
            for wish, level, ends in [("least", 3, "half"), ("exactly", 3, "half"), ("least", 3, "shut"), ("least", 4, "half")]:
                verdict = judge_sweep(sweep, wish, level=level, ends=ends)
                self.assert_verdict(sweep, wish, level, ends, None if verdict else len(verdict.witness))
                self.assertIsNone(fewest(sweep, wish, level, ends, min(3, len(verdict.witness) - 1 if not verdict else 3)))

    def test_right_sweeps_are_right_for_other_lists(self):
        for sweep in SWEEPS[::5]:
            for wish, level, ends in itertools.product(WISHES, (1, 2, 4), ENDS):
                if judge_sweep(sweep, wish, level=level, ends=ends):
                    for spans in LISTS[::9]:
                        self.assertIsNone(fault(sweep, wish, spans, level, ends), (sweep, wish, level, ends, spans))

    def test_no_sweep_is_right_for_exactly_with_shut_ends(self):
        for sweep in SWEEPS:
            self.assertFalse(judge_sweep(sweep, "exactly", ends="shut"))

    def test_the_order_of_errors(self):
        no_wishes = [5, "Least", "least ", ["least"], ("least",), Span(0, 1)] + ODD_OBJECTS
        no_levels = [0, 5, -1, 10 ** 39, Span(0, 1)] + ODD_OBJECTS
        for call in CALLS:
            for wrong in no_wishes:
                with self.assertRaises(BadWish) as caught:
                    call(Sweep(), wrong, level=7, ends="no")
                self.assertIs(caught.exception.word, wrong)
            for wish in WISHES:
                for wrong in no_levels:
                    with self.assertRaises(BadLevel) as caught:
                        call(Sweep(), wish, level=wrong, ends="no")
                    self.assertIs(caught.exception.level, wrong)
            for wish in ("greatest", "least"):
                for wrong in NO_ENDS:
                    with self.assertRaises(BadEnds) as caught:
                        call(sweep=Sweep(), wish=wish, level=4, ends=wrong)
                    self.assertIs(caught.exception.ends, wrong)
            with self.assertRaises(TypeError):
                call(Sweep(), "least", 1)

    def test_verdict_class(self):
        verdict = SweepVerdict(right=False, witness=((0, 1), (2, 3)), told=4, due=5)
        self.assertEqual((verdict.right, verdict.witness, verdict.told, verdict.due), (False, ((0, 1), (2, 3)), 4, 5))
        self.assertIs(bool(verdict), False)
        self.assertEqual(len(verdict), 2)
        verdict = SweepVerdict(True, None, None, None)
        self.assertIs(bool(verdict), True)
        self.assertEqual(len(verdict), 0)
        empty = SweepVerdict(False, (), 1, 0)
        self.assertEqual((bool(empty), len(empty)), (False, 0))


class SweepNeedsTest(unittest.TestCase):

    def test_known_needs(self):
        for sweep, wish, level, ends, due in [
            (Sweep(), "greatest", 1, "half", ("any",)), (Sweep(), "greatest", 1, "shut", ()),
            (Sweep(ties="list", skips=True), "greatest", 1, "half", ("begin", "end")),
            (Sweep(order="end back", ties="list", skips=True), "greatest", 4, "half", ("begin", "end")),
            (Sweep(ties="list", skips=True), "least", 2, "half", ()),
            (Sweep(glues=True, order="end"), "least", 2, "half", ("any",)),
        ]:
            self.assertEqual(sweep_needs(sweep, wish, level=level, ends=ends), due)
            self.assertEqual(sweep_needs(wish=wish, sweep=sweep, ends=ends, level=level), due)

    def test_agrees_with_the_judge(self):
        weaker = {order: [other for other in ("any", "begin", "end") if other != order and (other == "any" or order.startswith(other))]
                  for order in STRETCH_ORDERS}
        for ties, flags in itertools.product(TIES, itertools.product([False, True], repeat=4)):
            sweep = Sweep(order="end begin", ties=ties, **dict(zip(FLAGS, flags)))
            for wish, level, ends in [(wish, level, ends) for wish in WISHES for level in (1, 2) for ends in ENDS]:
                right = [order for order in STRETCH_ORDERS if judge_sweep(sweep.by(order), wish, level=level, ends=ends)]
                due = tuple(order for order in right if not set(weaker[order]) & set(right))
                self.assertEqual(sweep_needs(sweep, wish, level=level, ends=ends), due)


class SweepRemediesTest(unittest.TestCase):

    def test_known_remedies(self):
        for ties, wish, level, ends, due in [
            ("ends", "greatest", 1, "half", ((),)), ("ends", "peak", 1, "half", (("settles",),)),
            ("ends", "least", 1, "half", (("glues",), ("settles",))), ("ends", "least", 4, "half", (("glues",), ("settles",))),
            ("begins", "least", 1, "half", (("drops",), ("settles",), ("skips",))),
            ("begins", "least", 2, "half", (("drops",), ("settles",))),
            ("begins", "least", 1, "shut", ((),)), ("begins", "greatest", 1, "shut", ((),)),
            ("begins", "peak", 3, "shut", ((),)), ("ends", "exactly", 1, "shut", ()), ("list", "exactly", 2, "shut", ()),
            ("ends", "greatest", 1, "shut", ()),
        ]:
            for flags in itertools.product([False, True], repeat=4):
                sweep = Sweep(ties=ties, **dict(zip(FLAGS, flags)))
                self.assertEqual(sweep_remedies(sweep, wish, level=level, ends=ends), due, (ties, wish, level, ends))

    def test_agrees_with_the_judge(self):
        found = {}
        for order, ties in itertools.product(STRETCH_ORDERS[::2], TIES):
            for wish, level, ends in [(wish, level, ends) for wish in WISHES for level in (1, 2) for ends in ENDS]:
                right = [chosen for count in range(5) for chosen in itertools.combinations(NAMES, count)
                         if judge_sweep(Sweep(order=order, ties=ties, **{name: True for name in chosen}), wish, level=level, ends=ends)]
                due = tuple(chosen for chosen in right if not any(set(other) < set(chosen) for other in right))
                self.assertEqual(sweep_remedies(Sweep(order=order, ties=ties), wish, level=level, ends=ends), due)
                found[due] = True
        self.assertIn((), found)
        self.assertIn(((),), found)
        self.assertTrue(any(len(chosen) == 2 for due in found for chosen in due), found)

    def test_twice_the_same(self):
        sweep = Sweep(ties="list", glues=True)
        first = [call(sweep, "least", level=2) for call in (sweep_needs, sweep_remedies)]
        verdict = judge_sweep(sweep, "least", level=2)
        judge_sweep(Sweep(), "exactly", level=4)
        self.assertEqual([call(sweep, "least", level=2) for call in (sweep_needs, sweep_remedies)], first)
        self.assertEqual(vars(judge_sweep(sweep, "least", level=2)), vars(verdict))
        self.assertEqual(sweep, Sweep(ties="list", glues=True))


if __name__ == "__main__":
    unittest.main()
