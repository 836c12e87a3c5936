"""Over the whole program: arguments by position and by name, equal calls, and what is passed stays as it was."""

import copy
import inspect
import random
import unittest

from spanloops import days, desk, errors, judging, loops, pools, questions, spans, spreads, sweepjudge, sweeps, texts, wishes
from tests import known

ROWS = [(3, 9), (0, 4), (3, 5), (0, 4), (6, 6), (-7, -2)]
EVENTS = [("in", 3), ("out", 9), ("in", 4)]
JOIN, WINDOW, SOME = known.joining(), known.gaps_in_window(), wishes.Moments("some")
RULE = loops.Rule(("set", "low"), do=[("put", "low", "last")])
ROW = pools.Row(known.SKIP, only="skip")
DAY, SWEEP = days.Days(24, offset=3), sweeps.Sweep(ties="list")
NONE_WITHIN = wishes.Moments("none", within=True)


def pool():
    return pools.Pool("any", sorts=[("early", "begin")], each=[ROW] + [pools.Row(rule) for rule in JOIN.each[1:]],
                      behind=[pools.Row(rule) for rule in JOIN.behind])


def kept_desk():
    made = desk.Desk()
    made.run(["list a 0..5", "loop b any"])
    return made


POOL, KEPT = pool(), kept_desk()

# What is called, with the arguments in the order of the interface, and those that are passed by name only.
CALLS = [
    (spans.holds, [(3, 5), 5, "shut"], {}), (spans.is_empty, [(3, 3), "shut"], {}), (spans.union, [ROWS, "half"], {}),
    (spans.in_one_form, [ROWS, "half"], {}), (spans.Span, [3, 5], {}), (spans.Span.since, [5], {}), (spans.Span.until, [5], {}),
    (spreads.Spread.of, [ROWS], {}), (spreads.Spread.of(ROWS).next_in, [5], {}), (spreads.Spread.of(ROWS).next_out, [4], {}),
    (spreads.Spread.of(ROWS).gaps, [(-9, 20)], {}), (loops.Loop, ["begin"], {"ahead": [], "each": list(JOIN.each), "behind": [RULE]}),
    (JOIN.part, ["each"], {}), (JOIN.by, ["end"], {}), (JOIN, [ROWS, (0, 5)], {}), (WINDOW, [ROWS, (0, 5)], {}),
    (loops.Result, [((1, 2),), None, 3, None], {}), (JOIN(ROWS).times, [3, "shut"], {}), (loops.steps, [WINDOW, ROWS, (0, 5)], {}),
    (loops.sort_items, ["at in", EVENTS], {}), (loops.is_sorted, ["begin", ROWS], {}),
    (wishes.Moments, ["each"], {"within": True, "form": "cut", "ends": "shut"}), (wishes.Answer, ["busy"], {"ends": "shut"}),
    (wishes.Number, ["left"], {"ends": "shut"}), (SOME.by, ["shut"], {}), (SOME.fits, [JOIN], {}), (SOME.fault_of, [JOIN, ROWS, (0, 5)], {}),
    (NONE_WITHIN.wanted, [ROWS, 5, (0, 7)], {}), (wishes.Answer("covered").wished, [ROWS, (0, 7)], {}),
    (wishes.Number("touched").wished, [ROWS, (0, 7)], {}), (wishes.Fault, ["lost", 3, 0, 1], {}),
    (judging.judge, [JOIN, SOME], {}), (judging.judge, [JOIN, SOME.by("shut")], {}), (judging.situation, [WINDOW, NONE_WITHIN, ROWS, (0, 7), 5], {}),
    (judging.judge(JOIN, SOME).table.example, [judging.situation(JOIN, SOME, ROWS, None, 5)], {}),
    (judging.Verdict, [True, None, None, None, None], {}), (questions.parting, [JOIN, known.joining(skips=False)], {"ends": "shut"}),
    (questions.alike, [JOIN, known.joining(skips=False)], {"ends": "half"}), (questions.needs, [JOIN, SOME], {}), (questions.bears, [JOIN, SOME], {}),
    (questions.Parting, [(), None, "number", None, (0, 1)], {}), (pools.Row, [RULE], {"only": "a", "unless": "b"}), (ROW.stands, [["skip", "b"]], {}),
    (pools.Pool, ["any"], {"sorts": [("a", "begin")], "ahead": [], "each": [ROW], "behind": [pools.Row(RULE)]}), (POOL.remedies, [SOME], {}),
    (POOL.harms, [SOME], {}), (sweeps.Sweep, [], {"order": "end", "ties": "list", "settles": True, "skips": True, "glues": True, "drops": True}),
    (SWEEP.by, ["begin"], {}), (SWEEP, [ROWS], {}), (SWEEP.changes, [ROWS], {}), (SWEEP.readings, [ROWS], {}), (SWEEP.peak, [ROWS], {}),
    (SWEEP.spans_at, [ROWS, 2], {"exactly": True}), (sweepjudge.judge_sweep, [SWEEP, "least"], {"level": 2, "ends": "shut"}),
    (sweepjudge.SweepVerdict, [False, ((0, 1),), 1, 0], {}), (sweepjudge.sweep_needs, [SWEEP, "greatest"], {"level": 3, "ends": "half"}),
    (sweepjudge.sweep_remedies, [SWEEP, "least"], {"level": 1, "ends": "half"}), (texts.write_items, [ROWS], {}), (texts.write_pairs, [ROWS], {}),
    (texts.read_items, ["in@3 out@5"], {}), (texts.write_wish, [SOME], {}), (texts.read_wish, ["moments some one half"], {}), (texts.write_loop, [JOIN], {}),
    (texts.read_loop, [texts.write_loop(JOIN)], {}), (texts.write_rule, [RULE], {}), (texts.read_rule, ["else: stop"], {}), (days.Days, [24], {"offset": 5}),
    (DAY.number, [50], {}), (DAY.position, [50], {}), (DAY.bounds, [-2], {}), (DAY.pieces, [ROWS], {}), (DAY.joined, [[(0, 3, 5), (-1, 0, 24)]], {}),
    (DAY.totals, [ROWS], {}), (DAY.drawn, [ROWS, 0, 12], {}), (DAY.drawing, [ROWS, -1, 1, 12], {}), (KEPT.do, ["show a"], {}),
    (KEPT.run, [["show a", "names"]], {}), (KEPT.kept, ["a"], {}), (KEPT.kept, ["b"], {}),
]

MODULES = (spans, spreads, loops, wishes, judging, questions, pools, sweeps, sweepjudge, texts, days, desk)


def shown(value):
    """Anything as plain values that can be compared."""
    if inspect.isgenerator(value):
        value = ("generator", list(value))
    if isinstance(value, judging.Table):
        return ("Table", value.rows, [value.example(row) for row in value.rows])
    if isinstance(value, (list, tuple)):
        return (value.__class__.__name__, [shown(part) for part in value])
    if isinstance(value, dict):
        return ("dict", [(key, shown(part)) for key, part in value.items()])
    if hasattr(value, "__dict__") and not callable(value) or isinstance(value, (loops.Loop, sweeps.Sweep)):
        return (value.__class__.__name__, [(name, shown(part)) for name, part in vars(value).items()])
    return repr(value)


def names_of(called):
    if inspect.isclass(called) or inspect.ismethod(called) or inspect.isfunction(called):
        return list(inspect.signature(called).parameters)
    return list(inspect.signature(called.__call__).parameters)


class ProgramTest(unittest.TestCase):

    def test_by_position_and_by_name(self):
        for called, told, named in CALLS:
            with self.subTest(called=called):
                due = shown(called(*told, **named))
                names = names_of(called)
                self.assertEqual(len(names), len(told) + len(named))
                self.assertEqual(shown(called(**dict(zip(names, told)), **named)), due)
                self.assertEqual(shown(called(**dict(list({**dict(zip(names, told)), **named}.items())[::-1]))), due)
                if named:
                    with self.assertRaises(TypeError):
                        called(*told, *named.values())
                if told and not isinstance(called, type):
                    tuples = [tuple(value) if isinstance(value, list) else value for value in told]
                    self.assertEqual(shown(called(*tuples, **named)), due)

    def test_equal_calls_answer_the_same(self):
        first = [shown(called(*told, **named)) for called, told, named in CALLS]
        order = list(range(len(CALLS)))
        random.Random(1).shuffle(order)
        for at in order:
            called, told, named = CALLS[at]
            self.assertEqual(shown(called(*told, **named)), first[at], called)

    def test_what_is_passed_stays_as_it_was(self):
        before = copy.deepcopy([shown(told) + shown(list(named.values())) for _, told, named in CALLS])
        for called, told, named in CALLS:
            shown(called(*told, **named))
        self.assertEqual([shown(told) + shown(list(named.values())) for _, told, named in CALLS], before)
        self.assertEqual(ROWS, [(3, 9), (0, 4), (3, 5), (0, 4), (6, 6), (-7, -2)])

    def test_returned_lists_are_new(self):
        for called, told, named in CALLS:
            made = called(*told, **named)
            if isinstance(made, list):
                due = shown(made)
                made.append("more")
                made.reverse()
                self.assertEqual(shown(called(*told, **named)), due, called)
                self.assertFalse(any(made is value for value in told))

    def test_all_calls_stand_in_the_table(self):
        listed = {getattr(called, "__qualname__", called.__class__.__name__ + ".__call__") for called, _, _ in CALLS}
        for module in MODULES:
            for name, held in vars(module).items():
                if inspect.isfunction(held) and held.__module__ == module.__name__ and name in INTERFACE.get(module, ()):
                    self.assertIn(name, listed)

    def test_objects_of_other_classes_are_not_equal(self):
        made = [spans.Span(1, 2), spreads.Spread(spans.Span(1, 2)), RULE, JOIN, JOIN(ROWS), SOME, wishes.Answer("busy"), wishes.Number("all"),
                wishes.Fault("lost", 1, 0, 1), judging.judge(JOIN, SOME), judging.judge(JOIN, SOME).table, questions.Parting((), None, "number", None, (0, 1)),
                ROW, POOL, SWEEP, sweepjudge.SweepVerdict(True, None, None, None), DAY, KEPT, (1, 2), 5, "a", None, True, [], ()]
        for at, one in enumerate(made):
            for k, other in enumerate(made):
                self.assertIs(one == other, at == k)
                self.assertIs(one != other, at != k)

    def test_every_error_of_the_interface(self):
        told = {"BadEdge": "edge", "BadSpan": "span", "BadWindow": "window", "BadMoment": "moment", "BadEnds": "ends", "BadItem": "index", "BadOrder": "order",
                "BadTest": "test", "BadDeed": "deed", "BadRule": "rule", "BadUse": "place", "BadWish": "word", "BadOption": "option", "BadSweep": "word",
                "BadLevel": "level", "BadDay": "day", "BadColumns": "columns", "BadText": "line", "BadCommand": "command", "NoOption": "option", "NoRow": "row",
                "NoSpan": "index", "NoName": "name", "TooMany": "limit", "TooWide": "limit", "TooFar": "edge", "Endless": "span", "NoWindow": "user", "Unfit": "wish"}
        for name, attribute in told.items():
            self.assertEqual(vars(getattr(errors, name)(**{attribute: [1]})), {attribute: [1]})

    def test_generators_side_by_side(self):
        made = [(called, told, named) for called, told, named in CALLS if inspect.isgenerator(called(*told, **named))]
        self.assertEqual(len(made), 4)
        running = [(iter(called(*told, **named)), list(called(*told, **named)), []) for called, told, named in made for _ in range(2)]
        for _ in range(20):
            for generator, _, found in running:
                found.extend([value for value in [next(generator, None)] if value is not None])
        for _, due, found in running:
            self.assertEqual(found, due)


INTERFACE = {
    spans: ("holds", "is_empty", "union", "in_one_form"), loops: ("steps", "sort_items", "is_sorted"), judging: ("judge", "situation"),
    questions: ("parting", "alike", "needs", "bears"), sweepjudge: ("judge_sweep", "sweep_needs", "sweep_remedies"),
    texts: ("write_items", "write_pairs", "read_items", "write_wish", "read_wish", "write_loop", "read_loop", "write_rule", "read_rule"),
}


if __name__ == "__main__":
    unittest.main()
