"""The error classes."""

import unittest

from spanloops import errors
from spanloops.spans import Span
from spanloops.spreads import Spread
from tests.samples import NO_EDGES, STRETCHES

ATTRIBUTES = {
    ValueError: {
        "BadEdge": "edge", "BadSpan": "span", "BadWindow": "window", "BadMoment": "moment", "BadEnds": "ends",
        "BadItem": "index", "BadOrder": "order", "BadTest": "test", "BadDeed": "deed", "BadRule": "rule",
        "BadUse": "place", "BadWish": "word", "BadOption": "option", "BadSweep": "word", "BadLevel": "level",
        "BadDay": "day", "BadColumns": "columns", "BadText": "line", "BadCommand": "command",
    },
    LookupError: {"NoOption": "option", "NoRow": "row", "NoSpan": "index", "NoName": "name"},
    OverflowError: {"TooMany": "limit", "TooWide": "limit", "TooFar": "edge", "Endless": "span"},
    RuntimeError: {"NoWindow": "user", "Unfit": "wish"},
}
ROWS = [(base, name, word) for base, names in ATTRIBUTES.items() for name, word in names.items()]


class ErrorTest(unittest.TestCase):

    def test_keeps_any_object_under_its_attribute(self):
        for _, name, word in ROWS:
            made = getattr(errors, name)
            for told in NO_EDGES + STRETCHES + [0, -3, Span(0, 1), Spread()]:
                with self.subTest(name=name, told=told):
                    self.assertIs(getattr(made(told), word), told)
                    self.assertIs(getattr(made(**{word: told}), word), told)

    def test_takes_exactly_one_argument(self):
        for _, name, _ in ROWS:
            with self.subTest(name=name):
                self.assertRaises(TypeError, getattr(errors, name))
                self.assertRaises(TypeError, getattr(errors, name), 1, 2)

    def test_is_of_the_promised_class_and_of_no_other_of_the_package(self):
        for base, name, _ in ROWS:
            with self.subTest(name=name):
                made = getattr(errors, name)
                self.assertTrue(issubclass(made, base))
                others = [other for _, other, _ in ROWS if other != name and issubclass(made, getattr(errors, other))]
                self.assertEqual(others, [])
                bases = [each for each in ATTRIBUTES if issubclass(made, each)]
                self.assertEqual(bases, [base])

    def test_is_raised_and_caught_by_name(self):
        for base, name, word in ROWS:
            with self.subTest(name=name):
                with self.assertRaises(base) as caught:
                    raise getattr(errors, name)([name])
                self.assertEqual(getattr(caught.exception, word), [name])

    def test_there_are_no_other_errors(self):
        found = [name for name, held in vars(errors).items() if isinstance(held, type)]
        self.assertEqual(sorted(found), sorted([name for _, name, _ in ROWS]))


if __name__ == "__main__":
    unittest.main()
