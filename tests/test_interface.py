"""The names of the interface: where they are defined, and what their parameters are called."""

import inspect
import unittest

from spanloops import spans, spreads

FUNCTIONS = {
    spans: {
        "holds": ["pair", "moment", "ends"], "is_empty": ["pair", "ends"], "union": ["spans", "ends"],
        "in_one_form": ["spans", "ends"],
    },
}

METHODS = {
    (spans, "Span"): {
        "__init__": ["self", "begin", "end"], "__eq__": None, "__bool__": None, "__contains__": None, "__str__": None,
        "__add__": None, "__radd__": None, "__sub__": None, "ever": [], "since": ["edge"], "until": ["edge"],
        "pair": None, "duration": None,
    },
    (spreads, "Spread"): {
        "__init__": ["self", "spans"], "of": ["spans"], "__eq__": None, "__len__": None, "__bool__": None,
        "__iter__": None, "__getitem__": None, "__contains__": None, "__or__": None, "__ror__": None, "__and__": None,
        "__rand__": None, "__sub__": None, "__rsub__": None, "__xor__": None, "__rxor__": None, "__invert__": None,
        "__add__": None, "__radd__": None, "__str__": None, "hull": None, "duration": None,
        "next_in": ["self", "moment"], "next_out": ["self", "moment"], "gaps": ["self", "window"],
    },
    (spans, "Ends"): {"HALF": None, "SHUT": None},
}


class InterfaceTest(unittest.TestCase):

    def test_functions(self):
        for module, names in FUNCTIONS.items():
            for name, parameters in names.items():
                with self.subTest(name=name):
                    held = getattr(module, name)
                    self.assertEqual(held.__module__, module.__name__)
                    self.assertEqual(list(inspect.signature(held).parameters), parameters)

    def test_methods_stand_in_their_own_class(self):
        for (module, name), methods in METHODS.items():
            made = getattr(module, name)
            self.assertEqual(made.__module__, module.__name__)
            for method, parameters in methods.items():
                with self.subTest(name=name, method=method):
                    self.assertIn(method, vars(made))
                    if parameters is not None:
                        held = inspect.getattr_static(made, method)
                        held = getattr(held, "__func__", held)
                        self.assertEqual(list(inspect.signature(held).parameters), parameters)

    def test_kinds(self):
        self.assertIsInstance(vars(spans.Span)["pair"], property)
        self.assertIsInstance(vars(spans.Span)["duration"], property)
        self.assertIsInstance(vars(spreads.Spread)["hull"], property)
        self.assertIsInstance(vars(spreads.Spread)["duration"], property)
        for name in ("ever", "since", "until"):
            self.assertIsInstance(vars(spans.Span)[name], staticmethod)
        self.assertIsInstance(vars(spreads.Spread)["of"], staticmethod)
        spread = inspect.signature(spreads.Spread).parameters["spans"]
        self.assertEqual(spread.kind, inspect.Parameter.VAR_POSITIONAL)


if __name__ == "__main__":
    unittest.main()
