"""Edges, moments, stretches, the two ways to read ends, the union, and Span."""

import copy
import itertools
import unittest

from spanloops.errors import BadEdge, BadEnds, BadItem, BadMoment, BadSpan, TooFar
from spanloops.spans import FIRST, LAST, Ends, Span, holds, in_one_form, is_empty, union
from spanloops.spreads import Spread
from tests.samples import FAR, NO_EDGES, NO_ENDS, NO_MOMENTS, NO_STRETCHES, PROBES, STRETCHES


def same(one, other):
    """Whether two objects are equal, with True and 1 told apart."""
    return repr(one) == repr(other)


class ConstantTest(unittest.TestCase):

    def test_constants(self):
        self.assertEqual(FIRST, -10 ** 31)
        self.assertEqual(LAST, 10 ** 31)
        self.assertEqual(Ends.HALF, "half")
        self.assertEqual(Ends.SHUT, "shut")


class HoldsTest(unittest.TestCase):

    def test_half(self):
        for pair, moment, told in [
            ((2, 5), 1, False), ((2, 5), 2, True), ((2, 5), 4, True), ((2, 5), 5, False), ((2, 5), 6, False),
            ((2, 5), -FAR, False), ((2, 5), LAST - 1, False), ((5, 2), 3, False), ((5, 2), 2, False),
            ((5, 2), 5, False), ((4, 4), 4, False), ((FIRST, 5), FIRST + 1, True), ((FIRST, 5), 4, True),
            ((FIRST, 5), 5, False), ((5, LAST), LAST - 1, True), ((5, LAST), 5, True), ((5, LAST), 4, False),
            ((FIRST, LAST), 0, True), ((FIRST, LAST), FAR + 1, True), ((LAST, FIRST), 0, False),
            ((FIRST, FIRST), FIRST + 1, False), ((LAST, LAST), LAST - 1, False),
        ]:
            with self.subTest(pair=pair, moment=moment):
                self.assertIs(holds(pair, moment), told)
                self.assertIs(holds(pair, moment, "half"), told)
                self.assertIs(holds(pair=pair, moment=moment, ends=Ends.HALF), told)

    def test_shut(self):
        for pair, moment, told in [
            ((2, 5), 1, False), ((2, 5), 2, True), ((2, 5), 4, True), ((2, 5), 5, True), ((2, 5), 6, False),
            ((2, 5), FIRST + 1, False), ((2, 5), FAR, False), ((5, 2), 3, False), ((5, 2), 2, False),
            ((5, 2), 5, False), ((4, 4), 4, True), ((4, 4), 3, False), ((4, 4), 5, False),
            ((FIRST, 5), FIRST + 1, True), ((FIRST, 5), 5, True), ((FIRST, 5), 6, False), ((5, LAST), LAST - 1, True),
            ((5, LAST), 4, False), ((LAST, FIRST), 0, False), ((FIRST, FIRST), FIRST + 1, False),
            ((LAST, LAST), LAST - 1, False),
        ]:
            with self.subTest(pair=pair, moment=moment):
                self.assertIs(holds(pair, moment, "shut"), told)
                self.assertIs(holds(ends=Ends.SHUT, moment=moment, pair=pair), told)

    def test_is_empty(self):
        for pair, half, shut in [
            ((2, 5), False, False), ((5, 2), True, True), ((4, 4), True, False), ((4, 5), False, False),
            ((5, 4), True, True), ((FIRST, LAST), False, False), ((LAST, FIRST), True, True),
            ((FIRST, FIRST), True, False), ((LAST, LAST), True, False), ((FIRST, -FAR), False, False),
            ((FAR, LAST), False, False), ((LAST, FAR), True, True),
        ]:
            with self.subTest(pair=pair):
                self.assertIs(is_empty(pair), half)
                self.assertIs(is_empty(pair, "half"), half)
                self.assertIs(is_empty(pair, ends=Ends.HALF), half)
                self.assertIs(is_empty(pair, "shut"), shut)
                self.assertIs(is_empty(pair=pair, ends=Ends.SHUT), shut)

    def test_wrong_moments(self):
        for odd in NO_MOMENTS:
            for ends in ["half", "shut"] + NO_ENDS:
                with self.subTest(odd=odd, ends=ends), self.assertRaises(BadMoment) as caught:
                    holds((0, 5), odd, ends)
                self.assertTrue(same(caught.exception.moment, odd))

    def test_wrong_ends(self):
        for odd in NO_ENDS:
            with self.subTest(odd=odd):
                with self.assertRaises(BadEnds) as caught:
                    holds((0, 5), 3, odd)
                self.assertTrue(same(caught.exception.ends, odd))
                with self.assertRaises(BadEnds) as caught:
                    is_empty((0, 5), odd)
                self.assertTrue(same(caught.exception.ends, odd))


class UnionTest(unittest.TestCase):

    CASES = [
        ([], [], []),
        ([(0, 2)], [(0, 2)], [(0, 2)]),
        ([(0, 2), (2, 4)], [(0, 4)], [(0, 4)]),
        ([(0, 9), (2, 4)], [(0, 9)], [(0, 9)]),
        ([(0, 9), (2, 4), (6, 10)], [(0, 10)], [(0, 10)]),
        ([(0, 2), (0, 2)], [(0, 2)], [(0, 2)]),
        ([(0, 2), (0, 5)], [(0, 5)], [(0, 5)]),
        ([(0, 1), (2, 3)], [(0, 1), (2, 3)], [(0, 1), (2, 3)]),
        ([(3, 3)], [], [(3, 3)]),
        ([(3, 3), (3, 3)], [], [(3, 3)]),
        ([(0, 2), (2, 2)], [(0, 2)], [(0, 2)]),
        ([(0, 2), (3, 3)], [(0, 2)], [(0, 2), (3, 3)]),
        ([(0, 2), (3, 3), (4, 5)], [(0, 2), (4, 5)], [(0, 2), (3, 3), (4, 5)]),
        ([(FIRST, 0), (5, LAST)], [(FIRST, 0), (5, LAST)], [(FIRST, 0), (5, LAST)]),
        ([(FIRST, 0), (0, LAST)], [(FIRST, LAST)], [(FIRST, LAST)]),
        ([(FIRST, LAST), (3, 4)], [(FIRST, LAST)], [(FIRST, LAST)]),
        ([(-FAR, FAR), (FAR, FAR)], [(-FAR, FAR)], [(-FAR, FAR)]),
        ([(FIRST, -FAR), (-FAR, -FAR), (FAR, LAST)], [(FIRST, -FAR), (FAR, LAST)], [(FIRST, -FAR), (FAR, LAST)]),
    ]

    def test_cases_in_any_order(self):
        for spans, half, shut in self.CASES:
            for row in itertools.permutations(spans):
                with self.subTest(row=row):
                    self.assertEqual(union(list(row)), half)
                    self.assertEqual(union(row, "half"), half)
                    self.assertEqual(union(spans=row, ends=Ends.SHUT), shut)

    def test_all_small_lists_hold_the_same_moments(self):
        edges = [0, 1, 2, 3]
        small = [(begin, end) for begin in edges for end in edges if begin <= end]
        for spans in itertools.product(small, repeat=3):
            for ends in (Ends.HALF, Ends.SHUT):
                told = union(spans, ends)
                self.assertTrue(in_one_form(told, ends), spans)
                self.assertFalse(any(is_empty(pair, ends) for pair in told), spans)
                for before, after in zip(told, told[1:]):
                    self.assertGreater(after[0], before[1], spans)
                for moment in range(-1, 5):
                    due = any(holds(span, moment, ends) for span in spans)
                    self.assertEqual(any(holds(pair, moment, ends) for pair in told), due, spans)

    def test_is_a_new_list_of_tuples_and_leaves_the_argument(self):
        for spans in ([(4, 6), (0, 2), (1, 3), (5, 5)], [(0, 1), (2, 3)]):
            before = copy.deepcopy(spans)
            told = union(spans)
            self.assertIsInstance(told, list)
            self.assertTrue(all(isinstance(pair, tuple) for pair in told))
            self.assertIsNot(told, spans)
            told.append("more")
            self.assertEqual(spans, before)
            self.assertNotIn("more", union(spans))

    def test_in_one_form(self):
        for spans, half, shut in [
            ([], True, True), ([(0, 2)], True, True), ([(3, 3)], False, True), ([(0, 2), (2, 4)], False, False),
            ([(0, 2), (3, 4)], True, True), ([(3, 4), (0, 2)], False, False), ([(0, 2), (0, 2)], False, False),
            ([(0, 9), (2, 3)], False, False), ([(0, 2), (3, 3), (5, 6)], False, True),
            ([(0, 2), (2, 2)], False, False), ([(FIRST, 0), (1, LAST)], True, True),
            ([(FIRST, 0), (0, LAST)], False, False), ([(FIRST, LAST)], True, True),
            ([(0, 1), (3, 4), (4, 5)], False, False), ([(0, 1), (1, 2), (5, 6)], False, False),
        ]:
            with self.subTest(spans=spans):
                before = list(spans)
                self.assertIs(in_one_form(spans), half)
                self.assertIs(in_one_form(tuple(spans), "half"), half)
                self.assertIs(in_one_form(spans, "shut"), shut)
                self.assertIs(in_one_form(spans=tuple(spans), ends=Ends.SHUT), shut)
                self.assertEqual(spans, before)

    def test_wrong_members(self):
        for asked in (union, in_one_form):
            for odd in NO_STRETCHES:
                for index, spans in enumerate([[odd, None], [(0, 1), odd, None], [(5, 6), (0, 1), odd]]):
                    for ends in ("half", "shut", "neither", None):
                        with self.subTest(asked=asked, odd=odd, ends=ends):
                            with self.assertRaises(BadItem) as caught:
                                asked(spans, ends)
                            self.assertEqual(caught.exception.index, index)
                            self.assertRaises(BadItem, asked, tuple(spans), ends)

    def test_wrong_ends(self):
        for asked in (union, in_one_form):
            for odd in NO_ENDS:
                for spans in ([], [(0, 2), (1, 3)]):
                    with self.subTest(asked=asked, odd=odd), self.assertRaises(BadEnds) as caught:
                        asked(spans, odd)
                    self.assertTrue(same(caught.exception.ends, odd))

    def test_every_stretch_is_taken(self):
        for span in STRETCHES:
            self.assertEqual(union([span], "shut"), [span])


class SpanTest(unittest.TestCase):

    def test_attributes_and_properties(self):
        for begin, end in STRETCHES:
            for span in (Span(begin, end), Span(begin=begin, end=end), Span(end=end, begin=begin)):
                with self.subTest(span=(begin, end)):
                    self.assertEqual((span.begin, span.end), (begin, end))
                    self.assertIsInstance(span.pair, tuple)
                    self.assertEqual(span.pair, (begin, end))
                    self.assertIs(bool(span), begin != end)

    def test_duration(self):
        for begin, end, told in [
            (3, 7, 4), (3, 3, 0), (-5, 2, 7), (-FAR, FAR, 2 * FAR), (FIRST, 7, None), (3, LAST, None),
            (FIRST, LAST, None), (FIRST, -FAR, None), (FAR, LAST, None),
        ]:
            self.assertEqual(Span(begin, end).duration, told)

    def test_bad_edge_of_the_first_wrong_argument(self):
        for odd in NO_EDGES:
            for begin, end in [(odd, 5), (0, odd), (odd, None), (LAST, odd), (odd, FIRST)]:
                with self.subTest(begin=begin, end=end), self.assertRaises(BadEdge) as caught:
                    Span(begin, end)
                self.assertTrue(same(caught.exception.edge, odd))

    def test_bad_span(self):
        for pair in [(LAST, LAST), (FIRST, FIRST), (5, 3), (LAST, FIRST), (LAST, 0), (0, FIRST), (0, -1)]:
            with self.subTest(pair=pair):
                with self.assertRaises(BadSpan) as caught:
                    Span(pair[0], pair[1])
                self.assertIsInstance(caught.exception.span, tuple)
                self.assertEqual(caught.exception.span, pair)

    def test_ever_since_until(self):
        self.assertEqual(Span.ever().pair, (FIRST, LAST))
        for edge in (0, -7, FAR, -FAR):
            self.assertEqual(Span.since(edge).pair, (edge, LAST))
            self.assertEqual(Span.until(edge=edge).pair, (FIRST, edge))
        self.assertEqual(Span.since(edge=FIRST), Span.ever())
        self.assertEqual(Span.until(LAST), Span.ever())

    def test_errors_of_since_and_until(self):
        for odd in NO_EDGES:
            for asked in (Span.since, Span.until):
                with self.subTest(odd=odd), self.assertRaises(BadEdge) as caught:
                    asked(odd)
                self.assertTrue(same(caught.exception.edge, odd))
        with self.assertRaises(BadSpan) as caught:
            Span.since(LAST)
        self.assertEqual(caught.exception.span, (LAST, LAST))
        with self.assertRaises(BadSpan) as caught:
            Span.until(FIRST)
        self.assertEqual(caught.exception.span, (FIRST, FIRST))

    def test_equality(self):
        self.assertTrue(Span(0, 2) == Span(0, 2))
        self.assertFalse(Span(0, 2) != Span(0, 2))
        for other in [Span(0, 3), Span(1, 2), Span(2, 2), (0, 2), [0, 2], "0..2", None, 0, True, Spread(Span(0, 2))]:
            self.assertFalse(Span(0, 2) == other)
            self.assertFalse(other == Span(0, 2))
            self.assertTrue(Span(0, 2) != other)

    def test_text(self):
        for begin, end, told in [
            (1, 3, "1..3"), (FIRST, -5, "first..-5"), (0, LAST, "0..last"), (FIRST, LAST, "first..last"),
            (-3, 0, "-3..0"), (4, 4, "4..4"), (-FAR, FAR, "-1" + "0" * 30 + "..1" + "0" * 30),
        ]:
            self.assertEqual(str(Span(begin, end)), told)

    def test_contains(self):
        for begin, end in STRETCHES:
            span = Span(begin, end)
            for moment in PROBES:
                self.assertIs(moment in span, begin <= moment < end)
            for number in (FIRST, LAST, FIRST - 1, LAST + 1, 10 ** 39, -10 ** 39):
                self.assertIs(number in span, False)


class ShiftTest(unittest.TestCase):

    def shifts(self, span, k):
        """The three ways to shift a span by k."""
        return [lambda: span + k, lambda: k + span, lambda: span - -k]

    def test_shifts(self):
        for pair, k, told in [
            ((3, 7), 2, (5, 9)), ((3, 7), -10, (-7, -3)), ((3, 7), 0, (3, 7)), ((3, 3), 4, (7, 7)),
            ((FIRST, 7), 5, (FIRST, 12)), ((3, LAST), 5, (8, LAST)), ((FIRST, LAST), 5, (FIRST, LAST)),
            ((FIRST, LAST), 10 ** 39, (FIRST, LAST)), ((FIRST, LAST), -10 ** 39, (FIRST, LAST)),
            ((3, 7), FAR - 7, (FAR - 4, FAR)), ((3, 7), -FAR - 3, (-FAR, -FAR + 4)),
            ((-FAR, -FAR), 2 * FAR, (FAR, FAR)), ((FIRST, -FAR), 2 * FAR, (FIRST, FAR)),
            ((FAR, LAST), -2 * FAR, (-FAR, LAST)), ((-FAR, FAR), 0, (-FAR, FAR)),
        ]:
            for shift in self.shifts(Span(pair[0], pair[1]), k):
                with self.subTest(pair=pair, k=k):
                    self.assertIsInstance(shift(), Span)
                    self.assertEqual(shift().pair, told)

    def test_too_far(self):
        for pair, k, told in [
            ((3, 7), FAR - 6, FAR + 1), ((3, 7), FAR - 2, FAR + 1), ((3, 7), -FAR - 4, -FAR - 1),
            ((3, 7), -FAR - 8, -FAR - 5), ((3, 7), 2 * FAR, 2 * FAR + 3), ((FIRST, 7), FAR, FAR + 7),
            ((3, LAST), -FAR - 4, -FAR - 1), ((3, LAST), LAST - 3, LAST), ((FIRST, 7), FIRST - 7, FIRST),
            ((3, 7), 10 ** 38, 10 ** 38 + 3), ((-FAR, FAR), 1, FAR + 1), ((-FAR, FAR), -1, -FAR - 1),
            ((FIRST, -FAR), -1, -FAR - 1), ((FAR, LAST), 1, FAR + 1),
        ]:
            span = Span(pair[0], pair[1])
            for shift in self.shifts(span, k):
                with self.subTest(pair=pair, k=k):
                    with self.assertRaises(TooFar) as caught:
                        shift()
                    self.assertEqual(caught.exception.edge, told)
                    self.assertEqual(span.pair, pair)

    def test_operand_stays(self):
        span = Span(3, 7)
        self.assertEqual([(span + 1).pair, (1 + span).pair, (span - 1).pair], [(4, 8), (4, 8), (2, 6)])
        self.assertEqual((span.begin, span.end, span.pair), (3, 7, (3, 7)))

    def test_what_is_no_integer_is_not_added(self):
        for odd in (None, "1", (1, 2), [1], Span(0, 1), Spread()):
            for shift in (lambda: Span(0, 1) + odd, lambda: odd + Span(0, 1)):
                self.assertRaises(TypeError, shift)


class RepeatTest(unittest.TestCase):

    def test_equal_calls_answer_the_same(self):
        spans = [(4, 6), (0, 2), (1, 3), (3, 3)]
        asked = [
            lambda: holds((0, 3), 3), lambda: holds((0, 3), 3, "shut"), lambda: is_empty((3, 3)),
            lambda: is_empty((3, 3), "shut"), lambda: union(spans), lambda: union(spans, "shut"),
            lambda: in_one_form(spans), lambda: Span(0, 3) + 2, lambda: str(Span.ever()), lambda: 3 in Span(0, 3),
        ]
        once = [call() for call in asked]
        backwards = [call() for call in reversed(asked)]
        self.assertEqual(backwards[::-1], once)
        self.assertEqual([call() for call in asked], once)


if __name__ == "__main__":
    unittest.main()
