"""The examples of the document, as they stand there, and those of README.md."""

import doctest
import pathlib
import unittest

README = pathlib.Path(__file__).resolve().parent.parent / "README.md"

SPREADS = """
>>> from spanloops.spreads import Spread
>>> from spanloops.spans import Span
>>> busy = Spread(Span(9, 12), Span(3, 5), Span(5, 7))
>>> str(busy)
'3..7 9..12'
>>> list(busy.gaps((0, 20)))
[(0, 3), (7, 9), (12, 20)]
>>> str(Span(4, 10) - busy)
'7..9'
>>> str(3 + ~busy)
'first..6 10..12 15..last'
"""

LOOPS = """
>>> from spanloops.loops import Loop, Rule
>>> glue = Rule(("set", "high"), ("<=", "begin", "high"), do=[("keep", "high", ("max", "high", "end"))])
>>> first = Rule(("unset", "high"), do=[("keep", "low", "begin"), ("keep", "high", "end")])
>>> fresh = Rule(do=[("put", "low", "high"), ("keep", "low", "begin"), ("keep", "high", "end")])
>>> flush = Rule(("set", "high"), do=[("put", "low", "high")])
>>> join = Loop("begin", each=[glue, first, fresh], behind=[flush])
>>> join([(6, 9), (0, 2), (1, 5)]).puts
((0, 5), (6, 9))
>>> join([(3, 3)]).puts
((3, 3),)
"""

WISHES = """
>>> from spanloops.wishes import Moments
>>> fault = Moments("some").fault_of(join, [(3, 3)])
>>> (fault.kind, fault.place, fault.told, fault.due)
('empty', 0, (3, 3), None)
>>> Moments("some", form="any").fault_of(join, [(3, 3), (1, 4)])
>>> Moments("some", form="any").fault_of(join, [(3, 3), (1, 4)]) is None
True
"""

JUDGING = """
>>> from spanloops.judging import judge
>>> verdict = judge(join, Moments("some"))
>>> verdict.right
False
>>> len(verdict.witness)
1
>>> verdict.fault.kind
'empty'
>>> empty = Rule(("==", "begin", "end"))
>>> judge(Loop("begin", each=[empty, glue, first, fresh], behind=[flush]), Moments("some")).right
True
"""

SWEEPS = """
>>> from spanloops.sweeps import Sweep
>>> sweep = Sweep(ties="list")
>>> sweep([(2, 4), (0, 2)])
2
>>> sweep.changes([(2, 4), (0, 2)])
[(0, 1), (2, 1), (2, -1), (4, -1)]
>>> sweep.spans_at([(2, 4), (0, 2)], 2)
[(2, 2)]
>>> Sweep().spans_at([(2, 4), (0, 2)], 1)
[(0, 2), (2, 4)]
"""

SWEEPJUDGE = """
>>> from spanloops.sweepjudge import judge_sweep, sweep_needs, sweep_remedies
>>> judge_sweep(Sweep(), "greatest").right
True
>>> len(judge_sweep(Sweep(), "least", level=3))
4
>>> sweep_needs(Sweep(ties="list", skips=True), "greatest")
('begin', 'end')
>>> sweep_remedies(Sweep(ties="begins"), "least")
(('drops',), ('settles',), ('skips',))
"""

RIGHT_SWEEPS = """
>>> judge_sweep(Sweep(), "least").right, Sweep().spans_at([(0, 2), (2, 4)], 1)
(False, [(0, 2), (2, 4)])
>>> sweep_remedies(Sweep(ties="ends"), "least")
(('glues',), ('settles',))
>>> sweep_remedies(Sweep(ties="begins"), "least", level=2)
(('drops',), ('settles',))
>>> verdict = judge_sweep(Sweep(ties="list", skips=True), "greatest")
>>> verdict.right, Sweep(ties="list", skips=True)([(2, 4), (0, 2)])
(False, 2)
>>> [judge_sweep(Sweep(ties="begins"), wish, ends="shut").right for wish in ("greatest", "peak", "least", "exactly")]
[True, True, True, False]
"""

TEXTS = """
>>> from spanloops.texts import read_loop, write_items, write_loop, write_pairs, write_wish
>>> from spanloops.spans import FIRST
>>> from spanloops.wishes import Answer, Moments
>>> write_pairs([(1, 3)]), write_pairs([(FIRST, -5)]), write_items([("in", 5)]), write_items([])
('1..3', 'first..-5', 'in@5', 'none')
>>> write_wish(Moments("some")), write_wish(Moments("each", form="cut", ends="shut", within=True)), write_wish(Answer("busy"))
('moments some one half', 'moments each cut shut within', 'answer busy half')
>>> print(write_loop(join))
loop begin
each set high, begin <= high: keep high max high end
each unset high: keep low begin; keep high end
each else: put low high; keep low begin; keep high end
behind set high: put low high
>>> read_loop(write_loop(join)) == join
True
"""

DAYS = """
>>> from spanloops.days import Days
>>> days = Days(24)
>>> list(days.pieces([(3, 30), (-1, 0)]))
[(0, 3, 24), (1, 0, 6), (-1, 23, 24)]
>>> days.drawing([(3, 30)], 0, 1, 4)
'     day ----       held  pc\\n       0 +###         21  87\\n       1 #...          6  25\\n   total ====         27 end'
"""

# The answers that the table of the commands shows.
DESK = """
>>> from spanloops.desk import Desk
>>> desk = Desk()
>>> desk.run(["list a 0..5 6..9", "loop b any", "rule b each else: put begin end"])
['2', 'b', '1']
>>> desk.do("run b a")
'put 0..5 6..9, tally 0'
>>> desk.run(["loop c any", "rule c behind else: say yes"])
['c', '1']
>>> desk.do("run c a")
'put none, said yes, tally 0'
>>> desk.run(["rule b each else: stop", "unrule b each 1", "unrule b each 1", "list d 1..2 3..3"])
['2', 'each else: put begin end', 'each else: stop', '2']
>>> desk.run(["rule b each begin < end: put begin end", "rule b each low < high: pass"])
['1', '2']
>>> desk.do("run b d")
'put 1..2, tally 0, broken each 2'
"""


class ExampleTest(unittest.TestCase):

    def test_examples(self):
        # A fence behind an example would count as what the example shows.
        readme = README.read_text(encoding="ascii").replace("```", "")
        for name, text in [("spreads", SPREADS), ("loops", LOOPS), ("wishes", LOOPS + WISHES),
                           ("judging", LOOPS + WISHES + JUDGING), ("sweeps", SWEEPS),
                           ("sweepjudge", SWEEPS + SWEEPJUDGE + RIGHT_SWEEPS), ("texts", LOOPS + TEXTS), ("days", DAYS),
                           ("desk", DESK), ("readme", readme)]:
            found = doctest.DocTestParser().get_doctest(text, {}, name, name, 0)
            told = []
            result = doctest.DocTestRunner(verbose=False).run(found, out=told.append)
            with self.subTest(name=name):
                self.assertGreater(result.attempted, 0)
                self.assertEqual(result.failed, 0, "".join(told))


if __name__ == "__main__":
    unittest.main()
