"""The examples of the document, as they stand there, and those of README.md."""

import doctest
import pathlib
import unittest

README = pathlib.Path(__file__).resolve().parent.parent / "README.md"

SPREADS = """
>>> from spanloops.spreads import Spread
>>> from spanloops.spans import Span
>>> busy = Spread(Span(9, 12), Span(3, 5), Span(5, 7))
>>> str(busy)
'3..7 9..12'
>>> list(busy.gaps((0, 20)))
[(0, 3), (7, 9), (12, 20)]
>>> str(Span(4, 10) - busy)
'7..9'
>>> str(3 + ~busy)
'first..6 10..12 15..last'
"""

LOOPS = """
>>> from spanloops.loops import Loop, Rule
>>> glue = Rule(("set", "high"), ("<=", "begin", "high"), do=[("keep", "high", ("max", "high", "end"))])
>>> first = Rule(("unset", "high"), do=[("keep", "low", "begin"), ("keep", "high", "end")])
>>> fresh = Rule(do=[("put", "low", "high"), ("keep", "low", "begin"), ("keep", "high", "end")])
>>> flush = Rule(("set", "high"), do=[("put", "low", "high")])
>>> join = Loop("begin", each=[glue, first, fresh], behind=[flush])
>>> join([(6, 9), (0, 2), (1, 5)]).puts
((0, 5), (6, 9))
>>> join([(3, 3)]).puts
((3, 3),)
"""

WISHES = """
>>> from spanloops.wishes import Moments
>>> fault = Moments("some").fault_of(join, [(3, 3)])
>>> (fault.kind, fault.place, fault.told, fault.due)
('empty', 0, (3, 3), None)
>>> Moments("some", form="any").fault_of(join, [(3, 3), (1, 4)])
>>> Moments("some", form="any").fault_of(join, [(3, 3), (1, 4)]) is None
True
"""

JUDGING = """
>>> from spanloops.judging import judge
>>> verdict = judge(join, Moments("some"))
>>> verdict.right
False
>>> len(verdict.witness)
1
>>> verdict.fault.kind
'empty'
>>> empty = Rule(("==", "begin", "end"))
>>> judge(Loop("begin", each=[empty, glue, first, fresh], behind=[flush]), Moments("some")).right
True
"""

SWEEPS = """
>>> from spanloops.sweeps import Sweep
>>> sweep = Sweep(ties="list")
>>> sweep([(2, 4), (0, 2)])
2
>>> sweep.changes([(2, 4), (0, 2)])
[(0, 1), (2, 1), (2, -1), (4, -1)]
>>> sweep.spans_at([(2, 4), (0, 2)], 2)
[(2, 2)]
>>> Sweep().spans_at([(2, 4), (0, 2)], 1)
[(0, 2), (2, 4)]
"""


class ExampleTest(unittest.TestCase):

    def test_examples(self):
        # A fence behind an example would count as what the example shows.
        readme = README.read_text(encoding="ascii").replace("```", "")
        for name, text in [("spreads", SPREADS), ("loops", LOOPS), ("wishes", LOOPS + WISHES),
                           ("judging", LOOPS + WISHES + JUDGING), ("sweeps", SWEEPS), ("readme", readme)]:
            found = doctest.DocTestParser().get_doctest(text, {}, name, name, 0)
            told = []
            result = doctest.DocTestRunner(verbose=False).run(found, out=told.append)
            with self.subTest(name=name):
                self.assertGreater(result.attempted, 0)
                self.assertEqual(result.failed, 0, "".join(told))


if __name__ == "__main__":
    unittest.main()
