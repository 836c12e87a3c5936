"""Situations, and the tables of the loops that are right."""

import itertools
import random
import unittest

from spanloops.errors import BadItem, BadMoment, BadWindow, NoRow, NoWindow, Unfit
from spanloops.judging import judge, situation
from spanloops.loops import Loop, Rule
from spanloops.spans import FIRST, LAST, is_moment, is_stretch, is_window
from spanloops.wishes import Answer, Moments, Number
from tests import known, oracle
from tests.samples import NO_MOMENTS, NO_STRETCHES, NO_WINDOWS, ODD_OBJECTS
from tests.test_loops import scrambled
from tests.test_wishes import MOMENTS

RIGHT = [(loop, wish) for loop, wish in known.RIGHT if isinstance(wish, Moments) and loop.reads == "stretches"]


class SituationTest(unittest.TestCase):

    def test_joining(self):
        join, some = known.joining(), Moments("some")
        for spans, moment, due in [
            ([], 5, ("reading", (("moment", 0),), (0, 0))),
            ([(5, 5)], 5, ("reading", (("moment", 0), ("begin", 0)), (0, 0))),
            ([(0, 2)], 5, ("reading", (("moment", 2), ("low", 0), ("high", 1), ("begin", 0)), (0, 0))),
            ([(0, 2), (1, 9)], 5, ("reading", (("moment", 2), ("low", 0), ("high", 3), ("begin", 1)), (1, 0))),
            ([(1, 9), (0, 2)], 5, ("reading", (("moment", 2), ("low", 0), ("high", 3), ("begin", 1)), (1, 0))),
            ([(4, 6), (5, 7), (9, 9)], 5, ("reading", (("moment", 1), ("low", 0), ("high", 2), ("begin", 3)), (1, 0))),
            ([(0, 6), (8, 9)], 5, ("reading", (("moment", 0), ("low", 1), ("high", 2), ("begin", 1)), (1, 1))),
            ([(FIRST, 6), (8, LAST)], FIRST + 1, ("reading", (("moment", 0), ("low", 1), ("high", 2), ("begin", 1)), (1, 1))),
        ]:
            self.assertEqual(situation(join, some, spans, None, moment), due)
            self.assertEqual(situation(join, some, tuple(spans), (0, 3), moment), due)
            self.assertEqual(situation(moment=moment, window=None, spans=spans, wish=some, loop=join), due)

    def test_states(self):
        each = [Rule(("==", "begin", "first"), do=[("keep", "low", "end"), ("stop",)]),
                Rule(("==", "end", "last"), do=[("put", "begin", "end"), ("keep", "mark", "begin"), ("say", True)]),
                Rule(("==", "begin", "end"), ("<", "high", "begin")), Rule(do=[("put", "begin", "end")])]
        loop = Loop("end", each=each, behind=[Rule(do=[("keep", "low", "last"), ("keep", "high", "last"), ("put", "low", "high")])])
        wish = Moments("two")
        for spans, due in [
            ([(1, 9)], ("reading", (("first", 0), ("last", 3), ("moment", 1), ("end", 2)), (1, 1))),
            ([(1, 9), (FIRST, 4), (0, 2)], ("stopped", (("first", 0), ("last", 4), ("moment", 2), ("low", 1), ("end", 3)), (1, 0))),
            ([(1, 9), (FIRST, LAST)], ("stopped", (("first", 0), ("last", 2), ("moment", 1), ("low", 2), ("end", 2)), (2, 1))),
            ([(6, LAST), (7, LAST)], ("said", (("first", 0), ("last", 3), ("moment", 1), ("mark", 2), ("end", 3)), (0, 0))),
            ([(2, LAST), (3, LAST)], ("said", (("first", 0), ("last", 3), ("moment", 2), ("mark", 1), ("end", 3)), (2, 1))),
            ([(4, 4), (5, 6), (FIRST, 9)], ("broken", (("first", 0), ("last", 3), ("moment", 1), ("end", 2)), (2, 0))),
        ]:
            self.assertEqual(situation(loop, wish, spans, None, 5), due)
        early = Loop("any", ahead=[Rule(do=[("keep", "high", "left"), ("put", "low", "high")])])
        self.assertEqual(situation(early, Moments("all"), [(0, 1)], (4, 8), 5),
                         ("broken", (("left", 0), ("right", 2), ("moment", 1), ("high", 0)), (1, 0)))
        said = Loop("begin back", ahead=[Rule(do=[("put", "first", "last"), ("say", False)])], behind=[Rule(("<", "low", "low"))])
        self.assertEqual(situation(said, Moments("all"), [(3, 4), (3, 9)], None, 3),
                         ("said", (("first", 0), ("last", 3), ("moment", 1), ("begin", 1), ("end", 2)), (0, 1)))

    def test_counts(self):
        loop = Loop("any", each=[Rule(do=[("put", "begin", "end"), ("put", "begin", "end")])])
        spans = [(0, 9), (3, 5), (4, 4), (3, 9)]
        for which, ends, rows in [
            ("some", "half", {-1: (0, 0), 1: (1, 2), 3: (1, 2), 4: (1, 2)}), ("none", "shut", {-1: (0, 0), 4: (1, 2)}),
            ("all", "half", {-1: (1, 0), 1: (1, 2), 4: (1, 2)}), ("all", "shut", {4: (0, 2), 3: (1, 2), 10: (1, 0)}),
            ("one", "half", {-1: (0, 0), 1: (1, 2), 6: (2, 2), 3: (2, 2)}), ("two", "shut", {9: (2, 2), 1: (1, 2), 4: (2, 2)}),
            ("each", "half", {-1: (0,), 1: (1,), 6: (2,), 4: (3,)}), ("each", "shut", {4: (4,), 5: (3,), 9: (2,)}),
        ]:
            for moment, counts in rows.items():
                wish = Moments(which, ends=ends)
                self.assertEqual(situation(loop, wish, spans, None, moment), ("reading", (("moment", 0),), counts))
        once = Loop("any", each=[Rule(do=[("put", "begin", "end")])])
        self.assertEqual(situation(once, Moments("one"), [(0, 1)], None, 0)[2], (1, 1))
        self.assertEqual(situation(Loop("any"), Moments("each"), [(0, 1)] * 5, None, 0)[2], (-5,))

    def test_counts_within(self):
        once = Loop("any", each=[Rule(do=[("put", "begin", "end")])])
        spans = [(0, 9), (3, 5)]
        for ends, at_right in [("half", (2,)), ("shut", (0,))]:
            wish = Moments("each", within=True, ends=ends)
            made = [situation(once, wish, spans, (2, 4), moment)[2] for moment in (1, 2, 3, 4, 6)]
            self.assertEqual(made, [(1,), (0,), (0,), at_right, (1,)])
        self.assertEqual(situation(once, Moments("two", within=True), spans, (7, 8), 3),
                         ("reading", (("left", 1), ("right", 2), ("moment", 0)), (2, 2)))

    def test_which_names_have_ranks(self):
        spans, window = [(4, 8)], (2, 6)
        for rule, names in [
            (Rule(), "moment"), (Rule(do=[("put", "first", "first")]), "first moment"), (Rule(("<", "end", "last")), "last moment"),
            (Rule(("<", "begin", "right")), "left right moment"), (Rule(do=[("keep", "mark", "left")]), "left right moment mark"),
            (Rule(do=[("keep", "low", "first"), ("keep", "high", "last")]), "first last moment low high"),
            (Rule(("set", "low")), "moment"),
        ]:
            for order, more in [("any", ""), ("begin", " begin"), ("begin end", " begin end"), ("begin back", " begin end"),
                                ("end", " end"), ("end begin", " begin end"), ("end back", " begin end")]:
                loop = Loop(order, each=[rule])
                made = situation(loop, Moments("some"), spans, window, 5)[1]
                self.assertEqual(" ".join(name for name, _ in made), names + more)
                empty = situation(Loop(order, ahead=[Rule(("<", "left", "last"))]), Moments("some"), [], window, 5)[1]
                self.assertEqual(empty, (("last", 3), ("left", 0), ("right", 2), ("moment", 1)))
        for wish in (Moments("some", within=True), Moments("some", form="cut")):
            self.assertEqual(situation(Loop("any"), wish, spans, window, 6)[1], (("left", 0), ("right", 1), ("moment", 1)))

    def test_scrambled_loops(self):
        source = random.Random(4)
        items, windows = oracle.all_items(False, 4), oracle.all_windows(4)
        wishes = [wish for wish in MOMENTS if wish.which != "inside"]
        seen = set()
        for _ in range(4000):
            loop = scrambled(source, False)
            rows, window = source.choices(items, k=source.randint(0, 5)), source.choice(windows)
            wish, moment = source.choice(wishes), source.choice([FIRST + 1, -1, 0, 1, 2, 3, 4, 5, 6, 7, LAST - 1])
            made = situation(loop, wish, rows, window, moment)
            self.assertEqual(repr(made), repr(oracle.situation(loop, wish, rows, window, moment)))
            self.assertEqual(situation(loop, wish, rows, window, moment), made)
            seen.add(made[0])
        self.assertEqual(seen, {"reading", "stopped", "said", "broken"})

    def test_errors_in_their_order(self):
        uses, plain, events = known.gaps_in_window(), known.joining(), known.switches()
        for loop, wish in [(plain, Answer("clash")), (plain, Number("all")), (plain, Moments("inside")),
                           (events, Moments("inside")), (events, Moments("some")), (events, Number("all"))]:
            with self.assertRaises(Unfit) as caught:
                situation(loop, wish, [None], 5, None)
            self.assertIs(caught.exception.wish, wish)
        wish = Moments("none", within=True)
        for odd in NO_STRETCHES:
            with self.assertRaises(BadItem) as caught:
                situation(uses, wish, [(5, 6), (0, 1), odd], 5, None)
            self.assertEqual(caught.exception.index, 2)
        for odd in NO_WINDOWS:
            for loop, used in [(uses, wish), (plain, Moments("some"))]:
                with self.assertRaises(BadWindow) as caught:
                    situation(loop, used, [(5, 6)], odd, None)
                self.assertIs(caught.exception.window, odd)
        with self.assertRaises(NoWindow) as caught:
            situation(uses, wish, [(5, 6)], None, None)
        self.assertIs(caught.exception.user, uses)
        with self.assertRaises(NoWindow) as caught:
            situation(plain, wish, [(5, 6)], None, None)
        self.assertIs(caught.exception.user, wish)
        for odd in NO_MOMENTS:
            for loop, used, window in [(uses, wish, (0, 1)), (plain, Moments("some"), None)]:
                with self.assertRaises(BadMoment) as caught:
                    situation(loop, used, [], window, odd)
                self.assertIs(caught.exception.moment, odd)

    def test_nothing_is_changed(self):
        spans = [(3, 5), (0, 4)]
        situation(known.joining(), Moments("some"), spans, None, 3)
        self.assertEqual(spans, [(3, 5), (0, 4)])


class TableTest(unittest.TestCase):

    def test_rows_ascend_and_stand_there_once(self):
        for loop, wish in RIGHT:
            table = judge(loop, wish).table
            self.assertIsInstance(table.rows, tuple)
            self.assertEqual(list(table.rows), sorted(set(table.rows)))
            self.assertEqual(len(table), len(table.rows))
            self.assertGreater(len(table), 0)
            self.assertEqual(table.rows, table.rows)

    def test_each_row_is_the_situation_of_its_example(self):
        for loop, wish in RIGHT:
            table = judge(loop, wish).table
            for row in table.rows:
                self.assertIs(row in table, True)
                spans, window, moment = table.example(row)
                self.assertIsInstance(spans, tuple)
                self.assertTrue(all(is_stretch(span) for span in spans))
                self.assertTrue(is_window(window) if loop.uses_window or wish.uses_window else window is None)
                self.assertTrue(is_moment(moment))
                self.assertEqual(situation(loop, wish, spans, window, moment), row)
                self.assertEqual(repr(oracle.situation(loop, wish, spans, window, moment)), repr(row))
                self.assertEqual(table.example(row=row), (spans, window, moment))

    def test_situations_of_many_lists_are_rows(self):
        source = random.Random(5)
        for loop, wish in RIGHT:
            table = judge(loop, wish).table
            items, windows = oracle.all_items(False, 5), oracle.all_windows(5)
            for _ in range(200):
                rows, window = source.choices(items, k=source.randint(0, 7)), source.choice(windows)
                for moment in (FIRST + 1, -1, 0, 3, 4, 8, 9, LAST - 1):
                    self.assertIn(oracle.situation(loop, wish, rows, window, moment), table)

    def test_rows_are_the_situations_of_all_short_lists(self):
        for loop, wish, most in [
            (known.each_as_it_is(), Moments("each", form="full"), 2), (known.held_by_all(), Moments("all"), 2),
            (known.joining(), Moments("some"), 3), (known.joining(skips=False), Moments("some", ends="shut"), 3),
            (known.each_as_it_is("end", skips=False), Moments("each", form="any"), 2),
            (known.each_cut(), Moments("each", form="cut"), 2), (known.each_in_window(), Moments("each", within=True, form="full"), 2),
            (known.gaps_everywhere(), Moments("none"), 3), (known.each_in_window_of_all(), Moments("each", within=True, form="any"), 2),
        ]:
            verdict = judge(loop, wish)
            items = oracle.all_items(False, 4)
            windows = oracle.all_windows(2) if loop.uses_window or wish.uses_window else [None]
            found = {oracle.situation(loop, wish, rows, window, moment)
                     for many in range(most + 1) for rows in itertools.product(items, repeat=many) for window in windows
                     for moment in (-1, 0, 1, 2, 3, 4, 5, 6, 7)}
            self.assertEqual(verdict.table.rows, tuple(sorted(found)))

    def test_said_and_stopped_rows(self):
        for loop, wish, state in [(known.gaps_in_window(), Moments("none", within=True), "stopped"),
                                  (known.gaps_said(), Moments("none", within=True), "said")]:
            states = {row[0] for row in judge(loop, wish).table.rows}
            self.assertEqual(states, {"reading", state})

    def test_any_object_is_no_row_if_it_is_not_one(self):
        table = judge(known.joining(), Moments("some")).table
        row = ("reading", (("moment", 0), ("low", 1), ("high", 2), ("begin", 1)), (1, 1))
        self.assertIn(row, table)
        state, ranks, counts = row
        odd = ODD_OBJECTS + [
            0, list(row), (state, list(ranks), counts), (state, ranks, list(counts)), (state, ranks), row + (0,),
            (state, tuple([list(pair) for pair in ranks]), counts), (state, ranks, (1, 2)), (state, ranks, (2, 2)),
            (state, ranks, (True, 1)), (state, ranks, (1, True)), (state, ranks, ()), (state, ranks, (1, 1, 0)),
            (state, (("moment", False),) + ranks[1:], counts), (state, ranks[:1] + (("low", True),) + ranks[2:], counts),
            (state, (("moment", 0),), (0, False)), (state, (("moment", 0),), (False, 0)), (state, (("moment", None),), (0, 0)),
            ("stopped", ranks, counts), ("broken", ranks, counts), (True, ranks, counts), ([state], ranks, counts),
            (state, ranks[::-1], counts), (state, ranks[1:], counts), (state, ranks + ranks, counts), (state, (), counts),
            (state, "ranks", counts), (state, ranks, 1), (state, (("moment",),), counts), (state, ((["moment"], 0),), counts),
            (state, (("moment", [0]),), counts), (state, (("moment", 0, 0),), counts), (state, (("moment", 10 ** 39),), (0, 0)),
            (state, ranks, ("1", "1")), (state, ranks, ([1], 1)), (state, ("moment", 0), counts), str(row),
        ]
        for held in odd:
            with self.subTest(held=held):
                self.assertIs(held in table, False)
                with self.assertRaises(NoRow) as caught:
                    table.example(held)
                self.assertIs(caught.exception.row, held)
        self.assertIs((state, (("moment", 0),), (0, 0)) in table, True)


if __name__ == "__main__":
    unittest.main()
