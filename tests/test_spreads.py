"""Spreads: sets of moments, given by stretches in one form."""

import inspect
import itertools
import unittest

from spanloops.errors import BadItem, BadMoment, BadWindow, NoSpan, TooFar
from spanloops.spans import FIRST, LAST, Span, in_one_form, union
from spanloops.spreads import Spread
from tests.samples import FAR, NO_MOMENTS, NO_STRETCHES, NO_WINDOWS, PROBES, STRETCHES

LISTS = [
    [], [(3, 3)], [(0, 4)], [(2, 6)], [(0, 2), (4, 6)], [(4, 6), (0, 2), (2, 4)], [(1, 9), (3, 5), (3, 3)],
    [(-5, -2), (0, 1), (7, 12)], [(FIRST, LAST)], [(FIRST, 3)], [(3, LAST)], [(FIRST, 0), (5, LAST)],
    [(FIRST, -FAR), (FAR, LAST)], [(-FAR, FAR)], [(FIRST, 2), (4, 6), (8, LAST)], [(6, 8)],
]


def members(told):
    """The probes that are moments of a spread, by the stretches that it shows."""
    return {moment for moment in PROBES if any(begin <= moment < end for begin, end in told.pairs)}


def expected(spans):
    """The probes that some stretch of a list holds."""
    return {moment for moment in PROBES if any(begin <= moment < end for begin, end in spans)}


def objects(spans):
    """The Span objects of a list of stretches."""
    return [Span(begin, end) for begin, end in spans]


class MakingTest(unittest.TestCase):

    def test_pairs_in_one_form(self):
        for spans in LISTS:
            for row in itertools.permutations(spans):
                for made in (Spread(*objects(row)), Spread.of(list(row)), Spread.of(row), Spread.of(spans=row)):
                    with self.subTest(row=row):
                        self.assertIsInstance(made, Spread)
                        self.assertIsInstance(made.pairs, tuple)
                        self.assertTrue(all(isinstance(pair, tuple) for pair in made.pairs))
                        self.assertEqual(list(made.pairs), union(spans))
                        self.assertTrue(in_one_form(made.pairs))
                        self.assertEqual(members(made), expected(spans))

    def test_without_arguments(self):
        self.assertEqual(Spread().pairs, ())
        self.assertEqual(Spread.of([]).pairs, ())
        self.assertEqual(Spread(Span(3, 3), Span(5, 5)).pairs, ())

    def test_first_argument_that_is_no_span(self):
        for odd in NO_STRETCHES + STRETCHES + [Spread(), Spread(Span(0, 1))]:
            for index, spans in enumerate([[odd, None], [Span(0, 1), odd, None], [Span(5, 6), Span(0, 1), odd]]):
                with self.subTest(odd=odd), self.assertRaises(BadItem) as caught:
                    Spread(*spans)
                self.assertEqual(caught.exception.index, index)

    def test_first_member_that_is_no_stretch(self):
        for odd in NO_STRETCHES + [Span(0, 1), Spread()]:
            for index, spans in enumerate([[odd, None], [(0, 1), odd, None], [(5, 6), (0, 1), odd]]):
                for row in (spans, tuple(spans)):
                    with self.subTest(odd=odd), self.assertRaises(BadItem) as caught:
                        Spread.of(row)
                    self.assertEqual(caught.exception.index, index)

    def test_later_change_of_the_list(self):
        spans = [(4, 6), (0, 2)]
        made = Spread.of(spans)
        self.assertEqual(spans, [(4, 6), (0, 2)])
        spans.append((2, 4))
        spans[0] = (9, 10)
        self.assertEqual(made.pairs, ((0, 2), (4, 6)))


class RowTest(unittest.TestCase):

    def test_len_bool_iteration(self):
        for spans in LISTS:
            made = Spread.of(spans)
            due = union(spans)
            with self.subTest(spans=spans):
                self.assertEqual(len(made), len(due))
                self.assertIs(bool(made), bool(due))
                self.assertEqual([pair for pair in made], due)
                self.assertEqual([pair for pair in made], due)
                self.assertEqual([made[k] for k in range(len(due))], due)

    def test_no_span(self):
        for spans in LISTS:
            made = Spread.of(spans)
            for k in (-1, -len(made), -len(made) - 1, len(made), len(made) + 1, 10 ** 39, -10 ** 39):
                if k == 0 and made:
                    continue
                with self.subTest(spans=spans, k=k), self.assertRaises(NoSpan) as caught:
                    made[k]
                self.assertEqual(caught.exception.index, k)

    def test_text(self):
        for spans, told in [
            ([], "none"), ([(3, 3)], "none"), ([(9, 12), (3, 5), (5, 7)], "3..7 9..12"), ([(0, 1)], "0..1"),
            ([(FIRST, -5), (0, LAST)], "first..-5 0..last"), ([(FIRST, LAST)], "first..last"),
            ([(-FAR, FAR)], "-1" + "0" * 30 + "..1" + "0" * 30), ([(0, 1), (2, 3)], "0..1 2..3"),
        ]:
            self.assertEqual(str(Spread.of(spans)), told)

    def test_equality(self):
        for one, other in itertools.product(LISTS, LISTS):
            self.assertIs(Spread.of(one) == Spread.of(other), union(one) == union(other))
            self.assertIs(Spread.of(one) != Spread.of(other), union(one) != union(other))
        made = Spread(Span(0, 2))
        self.assertTrue(made == Spread.of([(1, 2), (0, 1), (7, 7)]))
        for other in [Span(0, 2), (0, 2), ((0, 2),), [(0, 2)], "0..2", None, 1, True]:
            self.assertFalse(made == other)
            self.assertFalse(other == made)
            self.assertTrue(made != other)
        self.assertFalse(Spread() == ())
        self.assertFalse(Spread() == None)  # noqa: E711
        self.assertFalse(Spread() == Span(3, 3))


class ContainsTest(unittest.TestCase):

    def test_integers(self):
        for spans in LISTS:
            made = Spread.of(spans)
            for moment in PROBES:
                self.assertIs(moment in made, moment in expected(spans))
            for number in (FIRST, LAST, FIRST - 1, LAST + 1, 10 ** 39, -10 ** 39):
                self.assertIs(number in made, False)

    def test_stretches_spans_and_spreads(self):
        for spans in LISTS:
            made = Spread.of(spans)
            for begin, end in STRETCHES + [(1, 3), (0, 4), (2, 2), (0, 6), (4, 5), (5, LAST), (FIRST, 3), (FIRST, 4)]:
                due = expected([(begin, end)]) <= expected(spans)
                with self.subTest(spans=spans, span=(begin, end)):
                    self.assertIs((begin, end) in made, due)
                    self.assertIs(Span(begin, end) in made, due)
            for others in LISTS:
                with self.subTest(spans=spans, others=others):
                    self.assertIs(Spread.of(others) in made, expected(others) <= expected(spans))

    def test_without_moments(self):
        for made in (Spread(), Spread(Span(0, 2)), Spread(Span.ever())):
            self.assertIs((9, 9) in made, True)
            self.assertIs(Span(9, 9) in made, True)
            self.assertIs(Spread() in made, True)
        self.assertIs((0, 1) in Spread(), False)
        self.assertIs(0 in Spread(), False)


class SetTest(unittest.TestCase):

    def check(self, told, due):
        self.assertIsInstance(told, Spread)
        self.assertTrue(in_one_form(told.pairs))
        self.assertEqual(members(told), due)

    def test_between_two_spreads(self):
        for one, other in itertools.product(LISTS, LISTS):
            a, b = Spread.of(one), Spread.of(other)
            before = (a.pairs, b.pairs)
            with self.subTest(one=one, other=other):
                self.check(a | b, expected(one) | expected(other))
                self.check(a & b, expected(one) & expected(other))
                self.check(a - b, expected(one) - expected(other))
                self.check(a ^ b, expected(one) ^ expected(other))
                self.assertEqual((a.pairs, b.pairs), before)

    def test_with_a_span(self):
        for one, (begin, end) in itertools.product(LISTS, STRETCHES + [(1, 5), (2, 2), (5, 5), (6, 7)]):
            a, b = Spread.of(one), Span(begin, end)
            other = [(begin, end)]
            before = a.pairs
            with self.subTest(one=one, other=other):
                self.check(a | b, expected(one) | expected(other))
                self.check(b | a, expected(one) | expected(other))
                self.check(a & b, expected(one) & expected(other))
                self.check(b & a, expected(one) & expected(other))
                self.check(a - b, expected(one) - expected(other))
                self.check(b - a, expected(other) - expected(one))
                self.check(a ^ b, expected(one) ^ expected(other))
                self.check(b ^ a, expected(one) ^ expected(other))
                self.assertEqual((a.pairs, b.pair), (before, (begin, end)))

    def test_invert(self):
        for one in LISTS:
            a = Spread.of(one)
            before = a.pairs
            with self.subTest(one=one):
                self.check(~a, set(PROBES) - expected(one))
                self.assertEqual(a.pairs, before)
                self.assertEqual(~~a, a)
        self.assertEqual((~Spread()).pairs, ((FIRST, LAST),))
        self.assertEqual((~Spread(Span.ever())).pairs, ())

    def test_rules_of_sets(self):
        everything = Spread(Span.ever())
        for one, other in itertools.product(LISTS, LISTS):
            a, b = Spread.of(one), Spread.of(other)
            with self.subTest(one=one, other=other):
                self.assertEqual(a | b, b | a)
                self.assertEqual(a & b, b & a)
                self.assertEqual(a ^ b, (a | b) - (a & b))
                self.assertEqual(a - b, a & ~b)
                self.assertEqual(~(a | b), ~a & ~b)
                self.assertEqual(~(a & b), ~a | ~b)
                self.assertEqual(a & (a | b), a)
                self.assertEqual((a - b) | (a & b), a)
                self.assertEqual(a ^ b ^ b, a)
                self.assertIs(a in b, a | b == b)
            self.assertEqual(a | ~a, everything)
            self.assertEqual(a & ~a, Spread())
            self.assertEqual(a - a, Spread())
            self.assertEqual(a ^ a, Spread())
            self.assertEqual(a ^ everything, ~a)

    def test_exact_stretches(self):
        a = Spread.of([(0, 4), (6, 9)])
        b = Spread.of([(2, 7)])
        self.assertEqual((a | b).pairs, ((0, 9),))
        self.assertEqual((a & b).pairs, ((2, 4), (6, 7)))
        self.assertEqual((a - b).pairs, ((0, 2), (7, 9)))
        self.assertEqual((a ^ b).pairs, ((0, 2), (4, 6), (7, 9)))
        self.assertEqual((~a).pairs, ((FIRST, 0), (4, 6), (9, LAST)))

    def test_other_objects_are_not_taken(self):
        made = Spread(Span(0, 2))
        for odd in (None, "1", (0, 1), [(0, 1)], 5):
            for call in (
                lambda: made | odd, lambda: odd | made, lambda: made & odd, lambda: odd & made, lambda: made ^ odd,
                lambda: odd ^ made, lambda: odd - made,
            ):
                with self.subTest(odd=odd):
                    self.assertRaises(TypeError, call)


class ShiftTest(unittest.TestCase):

    def shifts(self, made, k):
        """The three ways to shift a spread by k."""
        return [lambda: made + k, lambda: k + made, lambda: made - -k]

    def test_shifts(self):
        for spans, k, told in [
            ([], 5, ()), ([], 10 ** 39, ()), ([(0, 2), (4, 6)], 3, ((3, 5), (7, 9))), ([(0, 2)], -7, ((-7, -5),)),
            ([(0, 2), (4, 6)], 0, ((0, 2), (4, 6))), ([(FIRST, 0), (5, LAST)], 3, ((FIRST, 3), (8, LAST))),
            ([(FIRST, LAST)], 10 ** 39, ((FIRST, LAST),)), ([(0, 2), (4, 6)], FAR - 6, ((FAR - 6, FAR - 4), (FAR - 2, FAR))),
            ([(0, 2), (4, 6)], -FAR, ((-FAR, -FAR + 2), (-FAR + 4, -FAR + 6))),
            ([(FIRST, -FAR), (FAR, LAST)], 0, ((FIRST, -FAR), (FAR, LAST))),
        ]:
            made = Spread.of(spans)
            before = made.pairs
            for shift in self.shifts(made, k):
                with self.subTest(spans=spans, k=k):
                    self.assertIsInstance(shift(), Spread)
                    self.assertEqual(shift().pairs, told)
                    self.assertEqual(made.pairs, before)

    def test_too_far(self):
        for spans, k, told in [
            ([(0, 2), (4, 6)], FAR - 5, FAR + 1), ([(0, 2), (4, 6)], FAR - 3, FAR + 1), ([(0, 2), (4, 6)], FAR, FAR + 2),
            ([(0, 2), (4, 6)], FAR + 1, FAR + 1), ([(0, 2), (4, 6)], -FAR - 1, -FAR - 1),
            ([(0, 2), (4, 6)], -FAR - 5, -FAR - 5), ([(FIRST, 0), (5, LAST)], FAR - 4, FAR + 1),
            ([(FIRST, 0), (5, LAST)], FAR + 3, FAR + 3), ([(FIRST, 0), (5, LAST)], -FAR - 1, -FAR - 1),
            ([(4, 6), (0, 2)], -FAR - 7, -FAR - 7), ([(FIRST, -FAR), (FAR, LAST)], 1, FAR + 1),
            ([(FIRST, -FAR), (FAR, LAST)], -1, -FAR - 1), ([(0, LAST)], LAST, LAST),
        ]:
            made = Spread.of(spans)
            before = made.pairs
            for shift in self.shifts(made, k):
                with self.subTest(spans=spans, k=k):
                    with self.assertRaises(TooFar) as caught:
                        shift()
                    self.assertEqual(caught.exception.edge, told)
                    self.assertEqual(made.pairs, before)

    def test_spreads_are_not_added(self):
        for odd in (None, "1", (0, 1), [1], Span(0, 1), Spread()):
            for call in (lambda: Spread() + odd, lambda: odd + Spread()):
                self.assertRaises(TypeError, call)


class MeasureTest(unittest.TestCase):

    def test_hull_and_duration(self):
        for spans, hull, duration in [
            ([], None, 0), ([(3, 3)], None, 0), ([(0, 4)], (0, 4), 4), ([(7, 12), (0, 1), (-5, -2)], (-5, 12), 9),
            ([(FIRST, 3)], (FIRST, 3), None), ([(3, LAST)], (3, LAST), None), ([(FIRST, LAST)], (FIRST, LAST), None),
            ([(FIRST, 0), (5, LAST)], (FIRST, LAST), None), ([(0, 1), (5, LAST)], (0, LAST), None),
            ([(FIRST, 0), (5, 6)], (FIRST, 6), None), ([(-FAR, FAR)], (-FAR, FAR), 2 * FAR), ([(0, 9), (3, 4)], (0, 9), 9),
        ]:
            made = Spread.of(spans)
            with self.subTest(spans=spans):
                self.assertEqual(made.hull, hull)
                self.assertEqual(made.duration, duration)
                if hull is not None:
                    self.assertIsInstance(made.hull, tuple)

    def test_next_in_and_next_out(self):
        # A list for which each least moment lies among the probes, or is None.
        probes = sorted(PROBES)
        for spans in LISTS:
            made = Spread.of(spans)
            held = expected(spans)
            for moment in probes:
                later = [probe for probe in probes if probe >= moment]
                inside = next((probe for probe in later if probe in held), None)
                outside = next((probe for probe in later if probe not in held), None)
                with self.subTest(spans=spans, moment=moment):
                    self.assertEqual(made.next_in(moment), inside)
                    self.assertEqual(made.next_in(moment=moment), inside)
                    self.assertEqual(made.next_out(moment), outside)
                    self.assertEqual(made.next_out(moment=moment), outside)

    def test_next_in_and_next_out_at_edges(self):
        made = Spread.of([(3, 7), (9, LAST)])
        self.assertEqual([made.next_in(k) for k in (FIRST + 1, 2, 3, 6, 7, 8, 9, FAR + 1)], [3, 3, 3, 6, 9, 9, 9, FAR + 1])
        self.assertEqual([made.next_out(k) for k in (FIRST + 1, 2, 3, 6, 7, 8)], [FIRST + 1, 2, 7, 7, 7, 8])
        self.assertIsNone(made.next_out(9))
        self.assertIsNone(made.next_out(LAST - 1))
        self.assertIsNone(Spread(Span.until(5)).next_in(5))
        self.assertEqual(Spread(Span.until(5)).next_out(FIRST + 1), 5)
        self.assertIsNone(Spread().next_in(0))
        self.assertEqual(Spread().next_out(0), 0)
        self.assertIsNone(Spread(Span.ever()).next_out(0))

    def test_wrong_moments(self):
        for made in (Spread(), Spread.of([(0, 2)]), Spread(Span.ever())):
            for odd in NO_MOMENTS:
                for asked in (made.next_in, made.next_out):
                    with self.subTest(odd=odd), self.assertRaises(BadMoment) as caught:
                        asked(odd)
                    self.assertEqual(repr(caught.exception.moment), repr(odd))


class GapsTest(unittest.TestCase):

    def test_is_a_generator(self):
        self.assertTrue(inspect.isgenerator(Spread().gaps()))
        self.assertTrue(inspect.isgenerator(Spread(Span(0, 1)).gaps((0, 5))))

    def test_with_a_window(self):
        for spans, window, told in [
            ([(9, 12), (3, 7)], (0, 20), [(0, 3), (7, 9), (12, 20)]), ([(3, 7)], (3, 7), []), ([(3, 7)], (4, 6), []),
            ([(3, 7)], (5, 9), [(7, 9)]), ([(3, 7)], (7, 9), [(7, 9)]), ([(3, 7)], (0, 3), [(0, 3)]),
            ([(3, 7)], (0, 4), [(0, 3)]), ([], (0, 4), [(0, 4)]), ([], (FIRST, LAST), [(FIRST, LAST)]),
            ([(3, 3)], (0, 4), [(0, 4)]), ([(3, 7)], (FIRST, LAST), [(FIRST, 3), (7, LAST)]),
            ([(FIRST, 3), (5, LAST)], (FIRST, LAST), [(3, 5)]), ([(FIRST, 3), (5, LAST)], (4, LAST), [(4, 5)]),
            ([(FIRST, LAST)], (0, 4), []), ([(0, 1), (2, 3)], (-1, 4), [(-1, 0), (1, 2), (3, 4)]),
            ([(FIRST, -FAR)], (FIRST, FAR), [(-FAR, FAR)]),
        ]:
            made = Spread.of(spans)
            with self.subTest(spans=spans, window=window):
                self.assertEqual(list(made.gaps(window)), told)
                self.assertEqual(list(made.gaps(window=window)), told)
                self.assertTrue(all(isinstance(pair, tuple) for pair in made.gaps(window)))

    def test_without_a_window(self):
        for spans, told in [
            ([], []), ([(3, 3)], []), ([(3, 7)], []), ([(9, 12), (3, 7), (13, 20)], [(7, 9), (12, 13)]),
            ([(FIRST, 3), (5, LAST)], [(3, 5)]), ([(FIRST, 3)], []), ([(3, LAST)], []), ([(FIRST, LAST)], []),
            ([(FIRST, 0), (4, 6)], [(0, 4)]), ([(0, 2), (2, 4)], []),
        ]:
            made = Spread.of(spans)
            with self.subTest(spans=spans):
                self.assertEqual(list(made.gaps()), told)
                self.assertEqual(list(made.gaps(None)), told)
                self.assertEqual(list(made.gaps(window=None)), told)

    def test_gaps_are_what_the_window_has_more(self):
        for spans in LISTS:
            for window in [(0, 5), (FIRST, 4), (3, LAST), (FIRST, LAST), (-7, 14)]:
                made = Spread.of(spans)
                told = list(made.gaps(window))
                self.assertTrue(in_one_form(told))
                self.assertEqual(expected(told), expected([window]) - expected(spans))

    def test_bad_windows(self):
        for made in (Spread(), Spread.of([(0, 2), (4, 6)]), Spread(Span.ever())):
            for odd in NO_WINDOWS:
                with self.subTest(odd=odd), self.assertRaises(BadWindow) as caught:
                    next(made.gaps(odd), None)
                self.assertEqual(repr(caught.exception.window), repr(odd))

    def test_spread_stays(self):
        made = Spread.of([(0, 2), (4, 6)])
        list(made.gaps((-3, 9)))
        self.assertEqual(made.pairs, ((0, 2), (4, 6)))


class RepeatTest(unittest.TestCase):

    def test_equal_calls_answer_the_same(self):
        a = Spread.of([(0, 2), (4, 6)])
        b = Spread.of([(1, 5), (FIRST, -3)])
        asked = [
            lambda: a | b, lambda: a & b, lambda: a - b, lambda: b - a, lambda: a ^ b, lambda: ~a, lambda: ~b,
            lambda: a + 3, lambda: 3 + b, lambda: a - 3, lambda: list(a), lambda: a[1], lambda: str(b), lambda: len(a),
            lambda: b.hull, lambda: a.duration, lambda: a.next_in(2), lambda: a.next_out(1), lambda: (0, 2) in a,
            lambda: list(a.gaps()), lambda: list(a.gaps((0, 9))), lambda: Spread.of([(3, 4), (0, 3)]), lambda: bool(a),
        ]
        once = [call() for call in asked]
        backwards = [call() for call in reversed(asked)]
        self.assertEqual(backwards[::-1], once)
        self.assertEqual([call() for call in asked], once)

    def test_two_generators_do_not_disturb_each_other(self):
        made = Spread.of([(0, 2), (4, 6), (8, 9)])
        one, other = made.gaps(), made.gaps((-1, 9))
        self.assertEqual([next(one), next(other), next(one), next(other)], [(2, 4), (-1, 0), (6, 8), (2, 4)])


if __name__ == "__main__":
    unittest.main()
