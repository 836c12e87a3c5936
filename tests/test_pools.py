"""Pools: loops with options, remedies and harms."""

import itertools
import random
import unittest

from spanloops.errors import BadOption, BadOrder, BadRule, BadUse, NoOption, TooMany, TooWide, Unfit
from spanloops.judging import judge
from spanloops.loops import Loop, Rule
from spanloops.pools import Pool, Row
from spanloops.spans import Span
from spanloops.wishes import Answer, Moments, Number
from tests import known
from tests.samples import ODD_OBJECTS
from tests.test_rules import EVENT_ORDERS, STRETCH_ORDERS

PUT = Rule(do=[("put", "begin", "end")])
ADD = Rule(do=[("add", 1)])
AT = Rule(("in",))
KEEP_ALL = Rule(do=[("keep", "low", "begin"), ("keep", "high", "end"), ("drop", "mark")])

OPTIONS = ["a", "z", "skip", "abcdefgh", "zzzzzzzz"]
NO_OPTIONS = [odd for odd in ODD_OBJECTS if odd not in (None, "half", "first")] + [
    0, 1, "", " ", "A", "Skip", "abcdefghi", "skip ", " skip", "s k", "a1", "a_b", "a-b", "skip\n", "\n", "`", "{", "1",
    ["skip"], ("skip",), Span(0, 1)]
NO_RULES = ODD_OBJECTS + [0, 1, Span(0, 1), ("put", "begin", "end"), [PUT], (PUT,)]


def joining(order="any", **named):
    """known.joining() as rows, with an option to skip what is empty."""
    loop = known.joining(skips=False)
    rows = [Row(known.SKIP, only="skip")] + [Row(rule) for rule in loop.each]
    return Pool(order, each=rows, behind=[Row(rule) for rule in loop.behind], **named)


class RowTest(unittest.TestCase):

    def test_attributes(self):
        for only, unless in itertools.product([None] + OPTIONS, repeat=2):
            row = Row(PUT, only=only, unless=unless)
            self.assertEqual((row.rule, row.only, row.unless), (PUT, only, unless))
        row = Row(rule=ADD)
        self.assertIs(row.rule, ADD)
        self.assertEqual((row.only, row.unless), (None, None))
        with self.assertRaises(TypeError):
            Row(PUT, "skip")

    def test_stands(self):
        for row, due in [
            (Row(PUT), [True, True, True, True, True]),
            (Row(PUT, only="a"), [False, True, False, True, False]),
            (Row(PUT, unless="a"), [True, False, True, False, True]),
            (Row(PUT, only="a", unless="b"), [False, True, False, False, False]),
            (Row(PUT, only="a", unless="a"), [False] * 5),
        ]:
            told = [row.stands([]), row.stands(["a"]), row.stands(("b",)), row.stands(["b", "a", "a"]), row.stands(["ab", "x"])]
            self.assertEqual(told, due)
            self.assertIs(row.stands(options=["a"]), due[1])
            self.assertIs(row.stands([]), due[0])

    def test_errors_in_their_order(self):
        for wrong in NO_RULES:
            with self.assertRaises(BadRule) as caught:
                Row(wrong, only="A", unless=5)
            self.assertIs(caught.exception.rule, wrong)
        for wrong in NO_OPTIONS:
            with self.assertRaises(BadOption) as caught:
                Row(PUT, only=wrong, unless=7)
            self.assertEqual(repr(caught.exception.option), repr(wrong))
            with self.assertRaises(BadOption) as caught:
                Row(PUT, only="skip", unless=wrong)
            self.assertEqual(repr(caught.exception.option), repr(wrong))
            with self.assertRaises(BadOption) as caught:
                Row(PUT, unless=wrong)
            self.assertEqual(repr(caught.exception.option), repr(wrong))


class PoolTest(unittest.TestCase):

    def test_attributes(self):
        pool = Pool("end")
        self.assertEqual((pool.order, pool.sorts, pool.ahead, pool.each, pool.behind, pool.options), ("end", (), (), (), (), ()))
        rows = [Row(ADD, only=only) for only in ("late", "b", "late")]
        pool = Pool("any", sorts=[("b", "begin"), ("sorted", "end"), ("b", "any")], ahead=rows[:1], each=rows[1:],
                    behind=(Row(ADD, unless="c"),))
        self.assertEqual(pool.order, "any")
        self.assertEqual(pool.sorts, (("b", "begin"), ("sorted", "end"), ("b", "any")))
        self.assertEqual([len(pool.ahead), len(pool.each), len(pool.behind)], [1, 2, 1])
        for part, due in [(pool.ahead, rows[:1]), (pool.each, rows[1:])]:
            self.assertIsInstance(part, tuple)
            self.assertTrue(all(one is other for one, other in zip(part, due)))
        self.assertEqual(pool.options, ("b", "c", "late", "sorted"))

    def test_lists_that_are_changed_later_change_nothing(self):
        sorts, rows = [("b", "begin")], [Row(ADD)]
        pool = Pool("any", sorts=sorts, ahead=rows, each=rows, behind=rows)
        sorts.append(("c", "end"))
        rows.clear()
        self.assertEqual((pool.sorts, pool.options), ((("b", "begin"),), ("b",)))
        self.assertEqual([len(pool.ahead), len(pool.each), len(pool.behind)], [1, 1, 1])
        self.assertEqual(pool.loop("b"), Loop("begin", ahead=[ADD], each=[ADD], behind=[ADD]))

    def test_wrong_orders_first(self):
        for wrong in ODD_OBJECTS + [0, 1, "begin  end", "BEGIN", ["any"], Span(0, 1)]:
            with self.assertRaises(BadOrder) as caught:
                Pool(wrong, sorts=[(5, 5)], ahead=[5])
            self.assertIs(caught.exception.order, wrong)

    def test_wrong_sorts(self):
        for wrong in NO_OPTIONS:
            with self.assertRaises(BadOption) as caught:
                Pool("any", sorts=[("a", "begin"), (wrong, "at"), ("b", 7)], ahead=[5])
            self.assertEqual(repr(caught.exception.option), repr(wrong))
        for wrong in ODD_OBJECTS + [0, "at", "at in", "at out", "begin  end", ["begin"]]:
            with self.assertRaises(BadOrder) as caught:
                Pool("any", sorts=[("a", "begin"), ("a", wrong), ("B", "begin")], ahead=[5])
            self.assertIs(caught.exception.order, wrong)
        for pool, sort in itertools.product(STRETCH_ORDERS + EVENT_ORDERS, repeat=2):
            if (pool in EVENT_ORDERS) == (sort in EVENT_ORDERS):
                self.assertEqual(Pool(pool, sorts=[("a", sort)]).loop("a").order, sort)
            else:
                with self.assertRaises(BadOrder) as caught:
                    Pool(pool, sorts=[("a", sort)])
                self.assertEqual(caught.exception.order, sort)

    def test_wrong_rows(self):
        row, stop = Row(ADD), Row(Rule(do=[("stop",)]))
        for wrong in NO_RULES + [PUT, ADD]:
            for part in ("ahead", "each", "behind"):
                with self.assertRaises(BadRule) as caught:
                    Pool("any", **{part: [Row(PUT)] * 3 + [Row(AT), wrong, 5, row, row]})
                self.assertIs(caught.exception.rule, wrong)
        for part in ("ahead", "each", "behind"):
            self.assertEqual(len(getattr(Pool("any", **{part: [row] * 6}), part)), 6)
            with self.assertRaises(TooMany) as caught:
                Pool("any", **{part: [Row(AT)] * 7})
            self.assertEqual(caught.exception.limit, 6)
        for order, part, rows, number in [
            ("any", "ahead", [row, Row(PUT), stop], 2), ("any", "ahead", [row, row, stop], 3), ("any", "each", [stop, Row(AT)], 2),
            ("any", "behind", [stop], 1), ("at", "each", [row, Row(AT), row, Row(PUT)], 4), ("at out", "ahead", [Row(AT)], 1),
            ("end", "each", [Row(Rule(do=[("keep", "low", "at")]), only="a", unless="a")], 1),
        ]:
            with self.assertRaises(BadUse) as caught:
                Pool(order, **{part: rows})
            self.assertEqual(caught.exception.place, (part, number))

    def test_part_by_part(self):
        long, use, bad = [Row(ADD)] * 7, [Row(AT)], [7]
        for ahead, each, behind, made, told in [
            (use, bad, bad, BadUse, ("ahead", 1)), (long, bad, use, TooMany, 6), (bad, long, use, BadRule, 7),
            ([], use, bad, BadUse, ("each", 1)), ([], long, bad, TooMany, 6), ([], bad, long, BadRule, 7),
            ([], [], use, BadUse, ("behind", 1)), ([], [], long, TooMany, 6), ([], [], bad, BadRule, 7),
        ]:
            with self.assertRaises(made) as caught:
                Pool("any", ahead=ahead, each=each, behind=behind, sorts=[(letter, "any") for letter in "abcde"])
            self.assertEqual(list(vars(caught.exception).values()), [told])

    def test_too_many_options_at_last(self):
        rows = [Row(ADD, only="a", unless="b"), Row(ADD, only="c", unless="c")]
        pool = Pool("any", sorts=[("a", "end"), ("d", "end"), ("d", "any")], each=rows)
        self.assertEqual(pool.options, ("a", "b", "c", "d"))
        for sorts, more in [([("e", "end")], []), ([("d", "end")], [Row(ADD, only="e")]), ([("d", "end")], [Row(ADD, unless="e")]),
                            ([(letter, "any") for letter in "ghijkl"], rows)]:
            with self.assertRaises(TooMany) as caught:
                Pool("any", sorts=[("d", "any")] + sorts, each=rows, behind=more)
            self.assertEqual(caught.exception.limit, 4)

    def test_loops_of_all_choices(self):
        rows = [Row(Rule(do=[("add", k)]), only=only, unless=unless)
                for k, (only, unless) in enumerate(itertools.product([None, "a", "b"], repeat=2))]
        sorts = [("b", "begin"), ("c", "end back"), ("b", "end"), ("a", "any")]
        pool = Pool("end begin", sorts=sorts, ahead=rows[:3], each=rows[3:6], behind=rows[6:])
        for count in range(4):
            for chosen in itertools.permutations("abc", count):
                order = next((sort for option, sort in sorts if option in chosen), "end begin")
                parts = [[row.rule for row in part if (row.only in chosen or not row.only) and row.unless not in chosen]
                         for part in (rows[:3], rows[3:6], rows[6:])]
                due = Loop(order, ahead=parts[0], each=parts[1], behind=parts[2])
                self.assertEqual(pool.loop(*chosen), due)
                self.assertEqual(pool.loop(*chosen, *chosen), due)

    def test_numbers_of_rules_count_in_the_loop_of_the_choice(self):
        breaks = Rule(("<", "low", "low"))
        pool = Pool("any", each=[Row(Rule(("!=", "begin", "begin")), only="a"), Row(breaks)])
        self.assertEqual(pool.loop("a")([(0, 1)]).broken, ("each", 2))
        self.assertEqual(pool.loop()([(0, 1)]).broken, ("each", 1))
        self.assertEqual(pool.verdict(Number("all"), "a").fault.place, ("each", 2))
        self.assertEqual(pool.verdict(Number("all")).fault.place, ("each", 1))

    def test_no_option(self):
        pool = joining(sorts=[("sorted", "begin")])
        for call in (pool.loop, lambda *options: pool.verdict(Moments("inside"), *options)):
            for wrong in NO_OPTIONS + [None, "first", "half", "ski", "skips"]:
                with self.assertRaises(NoOption) as caught:
                    call("skip", wrong, "sorted", "nothing", 0)
                self.assertEqual(repr(caught.exception.option), repr(wrong))
        with self.assertRaises(NoOption):
            Pool("any").loop("skip")


def judged(pool, wish):
    """The remedies and the harms of a pool, by its loops one by one."""
    choices = [chosen for count in range(5) for chosen in itertools.combinations(pool.options, count)]
    right = [chosen for chosen in choices if judge(pool.loop(*chosen), wish)]
    remedies = [chosen for chosen in right if not any(set(other) < set(chosen) for other in right)]
    harms = [(chosen, option) for chosen in right for option in pool.options
             if option not in chosen and tuple(sorted(chosen + (option,))) not in right]
    return tuple(remedies), tuple(harms)


class RemedyTest(unittest.TestCase):

    def check(self, pool, wish, remedies, harms):
        self.assertEqual(pool.remedies(wish), remedies)
        self.assertEqual(pool.harms(wish=wish), harms)
        self.assertEqual((pool.remedies(wish=wish), pool.harms(wish)), judged(pool, wish))

    def test_known_remedies_and_harms(self):
        some = Moments("some")
        self.check(joining(), some, (), ())
        self.check(joining("begin"), some, (("skip",),), ())
        self.check(joining("begin"), Moments("some", form="any"), ((),), ())
        self.check(joining("begin"), Moments("some", ends="shut"), ((),), (((), "skip"),))
        self.check(joining(sorts=[("sorted", "begin"), ("long", "begin end")]), some, (("long", "skip"), ("skip", "sorted")), ())
        # The first sort counts: an order that is right is lost to one ahead of it.
        self.check(joining(sorts=[("late", "end"), ("sorted", "begin")]), some,
                   (("skip", "sorted"),), ((("skip", "sorted"), "late"),))
        self.check(joining(sorts=[("sorted", "begin"), ("late", "end")]), some, (("skip", "sorted"),), ())
        self.check(joining("begin", sorts=[("late", "end"), ("none", "any"), ("both", "begin back")]), some, (("skip",),),
                   ((("skip",), "late"), (("skip",), "none"), (("both", "skip"), "late"), (("both", "skip"), "none")))

    def test_the_order_of_remedies(self):
        rules = {option: Rule(("==", "begin", "end"), ("!=", "end", "end")) for option in "abcd"}
        adds = [Row(rules[option], only=option) for option in "ab"] + [
            Row(known.SKIP, only="d"), Row(known.SKIP, only="c", unless="a"), Row(ADD)]
        self.check(Pool("any", each=adds), Number("full"), (("c",), ("d",)), ((("c",), "a"), (("b", "c"), "a")))
        pairs = [Row(Rule(("==", "begin", "end"), ("<", "begin", "begin")), only="b"), Row(known.SKIP, only="d", unless="b"),
                 Row(known.SKIP, only="a", unless="d"), Row(ADD)]
        self.check(Pool("end", each=pairs), Number("full"), (("a",), ("d",)), ((("d",), "b"), (("a", "b"), "d"), (("a", "d"), "b")))

    def test_unless(self):
        pool = Pool("any", each=[Row(known.SKIP, unless="all"), Row(ADD)])
        self.check(pool, Number("full"), ((),), (((), "all"),))
        self.check(pool, Number("all"), (("all",),), ())
        self.check(pool, Number("full", ends="shut"), (("all",),), ())
        self.check(pool, Number("touched"), (), ())

    def test_events(self):
        loop = known.switches("at")
        pool = Pool("at", sorts=[("out", "at out"), ("in", "at in")],
                    each=[Row(loop.each[0]), Row(loop.each[1], unless="never")], behind=[Row(loop.behind[0])])
        self.check(pool, Moments("inside", form="any"), ((),),
                   (((), "never"), (("in",), "never"), (("out",), "never"), (("in", "out"), "never")))
        self.check(pool, Moments("inside", form="full"), (("out",),), ((("out",), "never"), (("in", "out"), "never")))

    def test_random_pools_agree_with_the_judge(self):
        source = random.Random(8)
        found = [0, 0]
        for loop, wish in known.RIGHT:
            if len(loop.registers) > 1 and loop.uses_window:
                continue
            for _ in range(2):
                words = source.sample(["a", "b", "c", "dd"], source.randint(1, 3))

                def row(rule):
                    return Row(rule, **source.choice([{}, {}, {"only": source.choice(words)}, {"unless": source.choice(words)},
                                                      {"only": source.choice(words), "unless": source.choice(words)}]))

                sorts = [(source.choice(words), source.choice(EVENT_ORDERS if loop.reads == "events" else ["any", "begin"]))]
                if wish.wants_begins:
                    sorts = [(source.choice(words), "begin back")]
                parts = {part: [row(rule) for rule in loop.part(part)] for part in ("ahead", "each", "behind")}
                pool = Pool(loop.order, sorts=sorts, **parts)
                if len(loop.registers) + 2 * (loop.uses_window or wish.uses_window) + 2 <= 4:
                    due = judged(pool, wish)
                    self.assertEqual((pool.remedies(wish), pool.harms(wish)), due)
                    found = [many + bool(told) for many, told in zip(found, due)]
        self.assertTrue(all(many > 3 for many in found), found)

    def test_verdict(self):
        pool = joining(sorts=[("sorted", "begin")])
        for options in [(), ("skip",), ("sorted",), ("skip", "sorted"), ("sorted", "skip", "sorted")]:
            for wish in (Moments("some"), Moments("some", form="any"), Number("all")):
                verdict, due = pool.verdict(wish, *options), judge(pool.loop(*options), wish)
                self.assertEqual((verdict.right, verdict.witness, verdict.window, verdict.fault),
                                 (due.right, due.witness, due.window, due.fault))
                self.assertEqual(verdict.table and verdict.table.rows, due.table and due.table.rows)
        with self.assertRaises(Unfit):
            pool.verdict(Moments("inside"), "skip")
        with self.assertRaises(BadOrder) as caught:
            pool.verdict(Answer("clash"), "skip")
        self.assertEqual(caught.exception.order, "any")
        wide = Pool("end", each=[Row(KEEP_ALL, only="all")], sorts=[("more", "end back")])
        self.assertFalse(wide.verdict(Number("all"), "all"))
        self.assertFalse(wide.verdict(Number("left"), "more"))
        with self.assertRaises(TooWide) as caught:
            wide.verdict(Number("all"), "all", "more")
        self.assertEqual(caught.exception.limit, 4)


class AskedTest(unittest.TestCase):

    def calls(self, pool):
        return (pool.remedies, pool.harms)

    def test_unfit_first(self):
        for pool, wish in [
            (Pool("end", each=[Row(KEEP_ALL)], sorts=[("a", "end back")]), Moments("inside", within=True)),
            (Pool("at", ahead=[Row(Rule(do=[("keep", "low", "left"), ("drop", "high")]))]), Answer("covered")),
            (Pool("at"), Number("pieces")),
        ]:
            for call in self.calls(pool):
                with self.assertRaises(Unfit) as caught:
                    call(wish)
                self.assertIs(caught.exception.wish, wish)

    def test_wrong_orders(self):
        wide = Row(Rule(("<", "left", "begin"), do=KEEP_ALL.deeds))
        for order, sorts, wrong in [
            ("any", [("a", "end")], "any"), ("begin", [("a", "begin"), ("b", "end back"), ("c", "any")], "end back"),
            ("end", [], "end"), ("begin end", [("a", "begin back"), ("b", "begin"), ("a", "any")], "any"),
        ]:
            for call in self.calls(Pool(order, sorts=sorts, each=[wide])):
                for wish in (Answer("clash"), Answer("covered"), Number("pieces")):
                    with self.assertRaises(BadOrder) as caught:
                        call(wish)
                    self.assertEqual(caught.exception.order, wrong)
                with self.assertRaises(TooWide):
                    call(Answer("busy"))

    def test_too_wide(self):
        low, high = Rule(do=[("keep", "low", "first")]), Rule(do=[("keep", "high", "first")])
        mark, window = Rule(do=[("drop", "mark")]), Rule(("<", "left", "right"))
        left, right = Rule(("==", "left", "first")), Rule(do=[("put", "right", "last")])
        for order, sorts, rules, wish, wide in [
            ("begin", ["any"], [low, high, mark], Number("all"), False),
            ("begin", ["begin end"], [low, high, mark], Number("all"), True),
            ("any", ["end"], [low, high, mark], Number("all"), False),
            ("end back", ["any"], [low, high, mark], Number("all"), True),
            ("any", ["any"], [low, high, mark, low], Number("all"), False),
            ("any", ["any"], [low, high, window], Number("all"), False),
            ("any", ["any"], [low, high], Number("left"), False),
            ("any", ["any"], [low, high, window], Number("left"), False),
            ("any", ["any", "begin"], [low, high, window], Number("left"), True),
            ("any", ["any"], [low, high, mark, window], Number("all"), True),
            ("any", ["any"], [low, high, mark, left], Number("all"), True),
            ("any", ["any"], [low, high, mark, right], Number("all"), True),
            ("any", ["any"], [low, high, mark], Moments("some", within=True), True),
            ("begin end", ["any"], [low], Moments("some", form="cut"), True),
            ("begin end", ["any"], [], Moments("some", form="cut"), False),
        ]:
            rows = [Row(rule, only=option) for rule, option in zip(rules, ["a", "b", "a", "b"])]
            pool = Pool(order, sorts=[("a", sort) for sort in sorts], ahead=rows[:2], behind=rows[2:])
            for call in self.calls(pool):
                if wide:
                    with self.assertRaises(TooWide) as caught:
                        call(wish)
                    self.assertEqual(caught.exception.limit, 4)
                else:
                    self.assertIsInstance(call(wish), tuple)

    def test_twice_the_same(self):
        pool = joining(sorts=[("late", "end"), ("sorted", "begin")])
        first = (pool.remedies(Moments("some")), pool.harms(Moments("some")))
        joining("begin").harms(Moments("each"))
        self.assertEqual((pool.remedies(Moments("some")), pool.harms(Moments("some"))), first)
        self.assertEqual(pool.options, ("late", "skip", "sorted"))
        self.assertFalse(pool == 5)
        self.assertFalse(Row(PUT) == PUT)


if __name__ == "__main__":
    unittest.main()
