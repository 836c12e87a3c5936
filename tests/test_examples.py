"""The examples of the document, as they stand there, and those of README.md."""

import doctest
import pathlib
import unittest

README = pathlib.Path(__file__).resolve().parent.parent / "README.md"

SPREADS = """
>>> from spanloops.spreads import Spread
>>> from spanloops.spans import Span
>>> busy = Spread(Span(9, 12), Span(3, 5), Span(5, 7))
>>> str(busy)
'3..7 9..12'
>>> list(busy.gaps((0, 20)))
[(0, 3), (7, 9), (12, 20)]
>>> str(Span(4, 10) - busy)
'7..9'
>>> str(3 + ~busy)
'first..6 10..12 15..last'
"""


class ExampleTest(unittest.TestCase):

    def test_examples(self):
        # A fence behind an example would count as what the example shows.
        readme = README.read_text(encoding="ascii").replace("```", "")
        for name, text in [("spreads", SPREADS), ("readme", readme)]:
            found = doctest.DocTestParser().get_doctest(text, {}, name, name, 0)
            told = []
            result = doctest.DocTestRunner(verbose=False).run(found, out=told.append)
            with self.subTest(name=name):
                self.assertGreater(result.attempted, 0)
                self.assertEqual(result.failed, 0, "".join(told))


if __name__ == "__main__":
    unittest.main()
