"""Days: their numbers, pieces, totals and drawings."""

import random
import unittest

from spanloops.days import Days
from spanloops.errors import BadColumns, BadDay, BadItem, BadMoment, Endless, TooFar, TooMany
from spanloops.spans import FIRST, LAST, Span, union
from tests import oracle
from tests.samples import FAR, NO_MOMENTS, NO_STRETCHES, ODD_OBJECTS

MADE = [Days(), Days(24), Days(24, offset=5), Days(1), Days(7, offset=6), Days(10 ** 6, offset=999999)]
LISTS = [
    [], [(0, 0)], [(3, 30)], [(3, 30), (-1, 0)], [(-50, 50), (-10, 10), (5, 5), (5, 5)], [(24, 48), (48, 72), (-24, 0)],
    [(100, 101), (0, 1), (7, 9), (7, 9)], [(5, 29)], [(4, 6), (29, 30)],
]


def pieces(days, spans):
    """The pieces of a list of stretches, moment by moment."""
    found = []
    for begin, end in spans:
        held = {}
        for moment in range(begin, end):
            number, place = divmod(moment - days.offset, days.length)
            held.setdefault(number, []).append(place)
        found += [(number, places[0], places[-1] + 1) for number, places in sorted(held.items())]
    return found


class DaysTest(unittest.TestCase):

    def test_attributes(self):
        for days, length, offset in [(Days(), 1440, 0), (Days(24), 24, 0), (Days(offset=7), 1440, 7), (Days(length=3, offset=2), 3, 2)]:
            self.assertEqual((days.length, days.offset), (length, offset))
        self.assertEqual(Days.MOST, 400)
        self.assertEqual(Days(5).MOST, 400)
        with self.assertRaises(TypeError):
            Days(24, 5)

    def test_wrong_lengths_and_offsets(self):
        for wrong in [0, -1, 10 ** 6 + 1, 10 ** 39, Span(0, 1)] + ODD_OBJECTS:
            with self.assertRaises(BadDay) as caught:
                Days(wrong, offset="no")
            self.assertIs(caught.exception.day, wrong)
        for length in (1, 24, 10 ** 6):
            for wrong in [-1, length, length + 1, 10 ** 39, Span(0, 1)] + ODD_OBJECTS:
                with self.assertRaises(BadDay) as caught:
                    Days(length, offset=wrong)
                self.assertIs(caught.exception.day, wrong)
            self.assertEqual(Days(length, offset=length - 1).offset, length - 1)

    def test_equality(self):
        self.assertEqual(Days(24, offset=3), Days(24, offset=3))
        self.assertEqual(Days(), Days(1440, offset=0))
        for one, other in [(Days(24), Days(25)), (Days(24), Days(24, offset=1)), (Days(24), 24), (Days(24), (24, 0)), (Days(), None)]:
            self.assertFalse(one == other)
            self.assertTrue(one != other)

    def test_number_and_position(self):
        for days in MADE:
            for moment in list(range(-60, 60)) + [FIRST + 1, LAST - 1, FAR, -FAR, 10 ** 6, -10 ** 6 - 1]:
                number, place = days.number(moment), days.position(moment)
                self.assertEqual(moment, days.offset + number * days.length + place)
                self.assertTrue(0 <= place < days.length)
                self.assertEqual((days.number(moment=moment), days.position(moment=moment)), (number, place))
            for call in (days.number, days.position):
                for wrong in NO_MOMENTS + [Span(0, 1)]:
                    with self.assertRaises(BadMoment) as caught:
                        call(wrong)
                    self.assertIs(caught.exception.moment, wrong)
        self.assertEqual([Days(24, offset=5).number(moment) for moment in (4, 5, 28, 29, -20, -19)], [-1, 0, 0, 1, -2, -1])

    def test_bounds(self):
        for days in MADE:
            for number in range(-3, 4):
                begin, end = days.bounds(number)
                self.assertEqual(days.bounds(number=number), (begin, end))
                self.assertIsInstance(days.bounds(number), tuple)
                self.assertEqual([days.number(moment) for moment in (begin - 1, begin, end - 1, end)], [number - 1, number, number, number + 1])
        days = Days(10)
        self.assertEqual(days.bounds(10 ** 29 - 1), (FAR - 10, FAR))
        self.assertEqual(days.bounds(-10 ** 29), (-FAR, -FAR + 10))
        for made, number, edge in [
            (days, 10 ** 29, FAR + 10), (days, -10 ** 29 - 1, -FAR - 10), (days, 10 ** 29 + 1, FAR + 10), (days, 10 ** 30, 10 ** 31),
            (days, -10 ** 30, -10 ** 31), (Days(7), 10 ** 30 // 7, 7 * (10 ** 30 // 7 + 1)), (Days(1), FAR + 1, FAR + 1), (Days(1), FAR, FAR + 1),
            (Days(10, offset=4), 10 ** 29 - 1, FAR + 4), (Days(10, offset=4), -10 ** 29 - 1, -FAR - 6), (Days(), 10 ** 39, 1440 * 10 ** 39),
        ]:
            with self.assertRaises(TooFar) as caught:
                made.bounds(number)
            self.assertEqual(caught.exception.edge, edge)


class PieceTest(unittest.TestCase):

    def test_pieces(self):
        self.assertEqual(list(Days(24).pieces([(3, 30), (-1, 0)])), [(0, 3, 24), (1, 0, 6), (-1, 23, 24)])
        for days in MADE:
            for spans in LISTS:
                made = list(days.pieces(spans))
                self.assertEqual(made, pieces(days, spans))
                self.assertEqual(list(days.pieces(spans=tuple(spans))), made)
                self.assertEqual(days.joined(made), union(spans))
                self.assertTrue(all(isinstance(piece, tuple) for piece in made))

    def test_errors_in_their_order(self):
        calls = (lambda days, spans: next(days.pieces(spans)), Days.totals)
        many, days = (0, 24 * 401), Days(24)
        for call in calls:
            for wrong in NO_STRETCHES + [("in", 5)]:
                with self.assertRaises(BadItem) as caught:
                    call(days, [many, (0, LAST), wrong, 7])
                self.assertEqual(caught.exception.index, 2)
            for wrong in [(0, LAST), (FIRST, 0), (FIRST, LAST), (FAR, LAST)]:
                with self.assertRaises(Endless) as caught:
                    call(days, [(0, 1), many, wrong, (FIRST, 5), many])
                self.assertEqual(caught.exception.span, wrong)
            for spans in [[many], [(1, 24 * 400 + 1)], [(-FAR, FAR)], [(24 * k, 24 * k + 1) for k in range(401)], [(0, 24), (24, 24 * 401)]]:
                with self.assertRaises(TooMany) as caught:
                    call(days, spans)
                self.assertEqual(caught.exception.limit, 400)

    def test_limits(self):
        days = Days(24, offset=3)
        for spans, many in [([(3, 3 + 24 * 400)], 400), ([(2, 3 + 24 * 399)], 400), ([(5, 7)] * 400, 400), ([(5, 7)] * 400 + [(9, 9)] * 9, 400),
                            ([(FAR - 5, FAR)], 1)]:
            self.assertEqual(len(list(days.pieces(spans))), many)
        for spans in ([(5, 7)] * 401, [(2, 3 + 24 * 400)]):
            with self.assertRaises(TooMany):
                next(days.pieces(spans))
        # The pieces of the union count for the totals.
        self.assertEqual(days.totals([(5, 7)] * 401), [(0, 2)])
        self.assertEqual(len(days.totals([(3, 3 + 24 * 400)] * 2)), 400)
        self.assertEqual(len(days.totals([(24 * k + 3, 24 * k + 27) for k in range(400)])), 400)
        with self.assertRaises(TooMany):
            Days(1000).totals([(2 * k, 2 * k + 1) for k in range(401)])
        self.assertEqual(Days(1000).totals([(2 * k, 2 * k + 1) for k in range(400)]), [(0, 400)])

    def test_two_generators_in_turn(self):
        days = Days(10)
        one, other = days.pieces([(5, 25)]), Days(24).pieces([(0, 30), (1, 2)])
        self.assertEqual([next(one), next(other), next(one), next(other), next(one), next(other)],
                         [(0, 5, 10), (0, 0, 24), (1, 0, 10), (1, 0, 6), (2, 0, 5), (0, 1, 2)])
        self.assertEqual((list(one), list(other)), ([], []))
        one, other = days.pieces([(5, 25)]), days.pieces([(5, 25)])
        self.assertEqual([next(one), next(other), days.totals([(0, 1)]), next(one), next(other)],
                         [(0, 5, 10), (0, 5, 10), [(0, 1)], (1, 0, 10), (1, 0, 10)])

    def test_joined(self):
        days = Days(24, offset=1)
        for parts, due in [
            ([], []), ([(0, 3, 3)], []), ([(0, 0, 0), (0, 24, 24)], []), ([(0, 0, 24), (1, 0, 24)], [(1, 49)]),
            ([(1, 5, 7), (0, 5, 9), (0, 7, 12), (1, 6, 8)], [(6, 13), (30, 33)]), ([(-1, 23, 24), (0, 0, 1)], [(0, 2)]),
            ([(0, 5, 9), (0, 5, 9), (0, 9, 9)], [(6, 10)]),
        ]:
            self.assertEqual(days.joined(parts), due)
            self.assertEqual(days.joined(pieces=tuple(parts)), due)

    def test_joined_errors_member_by_member(self):
        days = Days(10, offset=4)
        far = 10 ** 29
        for wrong in ODD_OBJECTS + [0, (0, 1), (0, 1, 2, 3), [0, 1, 2], (0, 5, 4), (0, -1, 3), (0, 3, 11), (0, 11, 11), (True, 1, 2), (0, False, 2),
                                    (0, 0, True), (None, 1, 2), ("0", 1, 2), (0, (1,), 2), Span(0, 1)]:
            with self.assertRaises(BadItem) as caught:
                days.joined([(0, 0, 10), (0, 4, 4), wrong, (far, 0, 10), 7])
            self.assertEqual(caught.exception.index, 2)
        for piece, edge in [((far, 0, 10), FAR + 4), ((far - 1, 6, 10), FAR + 4), ((far - 1, 7, 10), FAR + 1), ((far - 1, 7, 7), FAR + 1),
                            ((-far - 1, 5, 9), -FAR - 1), ((-far - 1, 0, 10), -FAR - 6), ((10 ** 39, 1, 2), 10 ** 40 + 5)]:
            with self.assertRaises(TooFar) as caught:
                days.joined([(0, 0, 10), piece, 7])
            self.assertEqual(caught.exception.edge, edge)
        self.assertEqual(days.joined([(far - 1, 5, 6), (-far - 1, 6, 10)]), [(-FAR, -FAR + 4), (FAR - 1, FAR)])

    def test_totals(self):
        self.assertEqual(Days(24).totals([(3, 30), (-1, 0), (4, 9)]), [(-1, 1), (0, 21), (1, 6)])
        for days in MADE:
            for spans in LISTS:
                moments = {moment for begin, end in spans for moment in range(begin, end)}
                counts = {}
                for moment in moments:
                    number = (moment - days.offset) // days.length
                    counts[number] = counts.get(number, 0) + 1
                self.assertEqual(days.totals(spans), sorted(counts.items()))
                self.assertEqual(days.totals(spans=tuple(spans)), sorted(counts.items()))


class DrawingTest(unittest.TestCase):

    def test_drawn(self):
        days = Days(24)
        for spans, number, columns, due in [
            ([(3, 30)], 0, 4, "+###"), ([(3, 30)], 1, 4, "#..."), ([(3, 30)], 2, 4, "...."), ([(0, 6), (6, 12)], 0, 4, "##.."),
            ([(0, 3), (3, 5)], 0, 4, "+..."), ([(5, 7)], 0, 4, "++.."), ([(0, 0), (7, 7)], 0, 1, "."), ([(23, 24)], 0, 24, "." * 23 + "#"),
            ([(FIRST, 5)], 0, 3, "+.."), ([(FIRST, 5)], -1, 3, "###"), ([(5, LAST)], 1, 2, "##"), ([(FIRST, LAST)], 5, 1, "#"), ([], 0, 1, "."),
            ([(0, 24)], 0, 1, "#"), ([(0, 23)], 0, 1, "+"), ([(-30, -20)], -1, 6, "#....."), ([(-30, -20)], -2, 6, "....+#"),
        ]:
            self.assertEqual(days.drawn(spans, number, columns), due)
            self.assertEqual(days.drawn(spans=tuple(spans), number=number, columns=columns), due)
        self.assertEqual(days.drawn([(3, 30)], 0), "..." + "#" * 21)
        self.assertEqual(Days().drawn([(60, 120), (150, 160)], 0), ".#+" + "." * 21)

    def test_columns_moment_by_moment(self):
        source = random.Random(1)
        for days in (Days(24, offset=5), Days(12), Days(60, offset=59)):
            for _ in range(60):
                spans = [tuple(sorted(source.choices(range(-40, 90), k=2))) for _ in range(source.randint(0, 5))]
                spans += source.choice([[], [(FIRST, -30)], [(70, LAST)]])
                columns = source.choice([count for count in range(1, 61) if days.length % count == 0])
                number = source.randint(-2, 2)
                begin, width = days.offset + number * days.length, days.length // columns
                due = ""
                for column in range(columns):
                    held = [oracle.depth(spans, begin + column * width + place, "half") > 0 for place in range(width)]
                    due += "#" if all(held) else "+" if any(held) else "."
                self.assertEqual(days.drawn(spans, number, columns), due)
                text = days.drawing(spans, number, number, columns).split("\n")[1].split(" ")
                self.assertEqual([part for part in text if part][1], due)

    def test_errors_in_their_order(self):
        days, far = Days(24), 10 ** 30
        for call in (lambda *rest: days.drawn(rest[0], far, rest[1]), lambda *rest: days.drawing(rest[0], far, far + 70, rest[1])):
            for wrong in NO_STRETCHES:
                with self.assertRaises(BadItem) as caught:
                    call([(FIRST, LAST), (0, 0), wrong, 7], "no columns")
                self.assertEqual(caught.exception.index, 2)
            for wrong in [0, -1, 5, 7, 48, 121, 120, 10 ** 39, -24, Span(0, 1)] + ODD_OBJECTS:
                with self.assertRaises(BadColumns) as caught:
                    call([(0, 1)], wrong)
                self.assertIs(caught.exception.columns, wrong)
        self.assertEqual(len(Days(240).drawn([], 0, 120)), 120)
        for columns in (121, 144, 240, 1440):
            for days in (Days(), Days(columns)):
                with self.assertRaises(BadColumns):
                    days.drawn([], 0, columns)
        with self.assertRaises(BadColumns):
            Days(20).drawn([], 0)
        with self.assertRaises(BadColumns):
            Days(20).drawing([], 0, 0)
        days = Days(24)
        with self.assertRaises(TooFar) as caught:
            days.drawn([], far, 4)
        self.assertEqual(caught.exception.edge, 24 * far)
        with self.assertRaises(TooMany) as caught:
            days.drawing([], far, far + 60, 4)
        self.assertEqual(caught.exception.limit, 60)

    def test_drawing(self):
        days = Days(24)
        self.assertEqual(days.drawing([(3, 30)], 0, 1, 4),
                         "     day ----       held  pc\n       0 +###         21  87\n       1 #...          6  25\n   total ====         27 end")
        self.assertEqual(days.drawing(columns=4, last=1, first=0, spans=((3, 30),)), days.drawing([(3, 30)], 0, 1, 4))
        self.assertEqual(days.drawing([(FIRST, LAST)], -1, -1, 2),
                         "     day --       held  pc\n      -1 ##         24 100\n   total ==         24 end")
        for first, last in [(1, 0), (5, -5), (10 ** 30, -10 ** 30)]:
            self.assertEqual(days.drawing([(3, 30)], first, last, 3), "     day ---       held  pc\n   total ===          0 end")
        self.assertEqual(Days().drawing([(0, 1440), (1500, 1501)], 0, 1),
                         "     day " + "-" * 24 + "       held  pc\n       0 " + "#" * 24 + "      1,440 100\n"
                         "       1 .+" + "." * 22 + "          1   0\n   total " + "=" * 24 + "      1,441 end")

    def test_long_parts(self):
        days = Days(10 ** 6)
        text = days.drawing([(FIRST, LAST)], 99999990, 99999999, 1).split("\n")
        self.assertEqual(text[1], "99999990 #  1,000,000 100")
        self.assertEqual(text[-1], "   total = 10,000,000 end")
        text = days.drawing([(FIRST, LAST)], -10 ** 8, -10 ** 8 + 59, 1).split("\n")
        self.assertEqual(text[1], "-100000000 #  1,000,000 100")
        self.assertEqual(text[-1], "   total = 60,000,000 end")
        self.assertEqual(days.drawing([(0, 999)], 0, 0, 1).split("\n")[1], "       0 +        999   0")
        self.assertEqual(days.drawing([(0, 999999)], 0, 0, 1).split("\n")[1], "       0 +    999,999  99")
        number = 10 ** 24 - 1
        self.assertEqual(days.drawing([(FAR - 1, FAR)], number, number, 1).split("\n")[1], f"{number} +          1   0")

    def test_limits(self):
        days = Days(24)
        self.assertEqual(len(days.drawing([], -30, 29, 1).split("\n")), 62)
        for first, last in [(-30, 30), (0, 60), (0, 10 ** 30), (-10 ** 30, 0)]:
            with self.assertRaises(TooMany) as caught:
                days.drawing([], first, last, 1)
            self.assertEqual(caught.exception.limit, 60)
        days, far = Days(10), 10 ** 29
        for first, last, edge in [(far - 5, far + 5, FAR + 10), (far + 3, far + 5, FAR + 30), (-far - 5, -far + 5, -FAR - 50)]:
            with self.assertRaises(TooFar) as caught:
                days.drawing([(0, 1)], first, last, 1)
            self.assertEqual(caught.exception.edge, edge)
        days.drawing([(0, 1)], far - 5, far - 1, 1)

    def test_twice_the_same(self):
        days, spans = Days(24), [(3, 30), (-1, 0)]
        for call in (lambda: list(days.pieces(spans)), lambda: days.totals(spans), lambda: days.joined([(0, 1, 2)])):
            first = call()
            kept = list(first)
            first.clear()
            days.drawing(spans, 0, 3)
            self.assertEqual(call(), kept)
        self.assertEqual(spans, [(3, 30), (-1, 0)])


if __name__ == "__main__":
    unittest.main()
