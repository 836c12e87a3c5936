"""The names of the interface: where they are defined, and what their parameters are called."""

import inspect
import unittest

from spanloops import days, desk, judging, loops, pools, questions, spans, spreads, sweepjudge, sweeps, texts, wishes

FUNCTIONS = {
    spans: {
        "holds": ["pair", "moment", "ends"], "is_empty": ["pair", "ends"], "union": ["spans", "ends"],
        "in_one_form": ["spans", "ends"],
    },
    loops: {
        "steps": ["loop", "items", "window"], "sort_items": ["order", "items"], "is_sorted": ["order", "items"],
    },
    judging: {
        "judge": ["loop", "wish"], "situation": ["loop", "wish", "spans", "window", "moment"],
    },
    questions: {
        "parting": ["one", "other", "ends"], "alike": ["one", "other", "ends"], "needs": ["loop", "wish"],
        "bears": ["loop", "wish"],
    },
    sweepjudge: {
        "judge_sweep": ["sweep", "wish", "level", "ends"], "sweep_needs": ["sweep", "wish", "level", "ends"],
        "sweep_remedies": ["sweep", "wish", "level", "ends"],
    },
    texts: {
        "write_items": ["items"], "write_pairs": ["pairs"], "read_items": ["text"], "write_wish": ["wish"],
        "read_wish": ["text"], "write_loop": ["loop"], "read_loop": ["text"], "write_rule": ["rule"], "read_rule": ["text"],
    },
}

WISH_METHODS = {
    "__eq__": None, "uses_window": None, "wants_begins": None, "by": ["self", "ends"], "fits": ["self", "loop"],
    "fault_of": ["self", "loop", "items", "window"],
}

METHODS = {
    (spans, "Span"): {
        "__init__": ["self", "begin", "end"], "__eq__": None, "__bool__": None, "__contains__": None, "__str__": None,
        "__add__": None, "__radd__": None, "__sub__": None, "ever": [], "since": ["edge"], "until": ["edge"],
        "pair": None, "duration": None,
    },
    (spreads, "Spread"): {
        "__init__": ["self", "spans"], "of": ["spans"], "__eq__": None, "__len__": None, "__bool__": None,
        "__iter__": None, "__getitem__": None, "__contains__": None, "__or__": None, "__ror__": None, "__and__": None,
        "__rand__": None, "__sub__": None, "__rsub__": None, "__xor__": None, "__rxor__": None, "__invert__": None,
        "__add__": None, "__radd__": None, "__str__": None, "hull": None, "duration": None,
        "next_in": ["self", "moment"], "next_out": ["self", "moment"], "gaps": ["self", "window"],
    },
    (spans, "Ends"): {"HALF": None, "SHUT": None},
    (loops, "Rule"): {"__init__": ["self", "tests", "do"], "__eq__": None, "names": None},
    (loops, "Loop"): {
        "__init__": ["self", "order", "ahead", "each", "behind"], "__eq__": None, "reads": None, "registers": None,
        "uses_window": None, "part": ["self", "word"], "by": ["self", "order"], "__call__": ["self", "items", "window"],
    },
    (loops, "Result"): {
        "__init__": ["self", "puts", "answer", "tally", "broken"], "__eq__": None, "__bool__": None,
        "times": ["self", "moment", "ends"],
    },
    (wishes, "Wish"): {},
    (wishes, "Moments"): {
        "__init__": ["self", "which", "within", "form", "ends"], "wanted": ["self", "items", "moment", "window"],
        **WISH_METHODS,
    },
    (wishes, "Answer"): {
        "__init__": ["self", "what", "ends"], "wished": ["self", "spans", "window"], **WISH_METHODS,
    },
    (wishes, "Number"): {
        "__init__": ["self", "what", "ends"], "wished": ["self", "spans", "window"], **WISH_METHODS,
    },
    (wishes, "Fault"): {"__init__": ["self", "kind", "place", "told", "due"], "__eq__": None},
    (judging, "Verdict"): {
        "__init__": ["self", "right", "witness", "window", "fault", "table"], "__bool__": None,
    },
    (judging, "Table"): {"rows": None, "__len__": None, "__contains__": None, "example": ["self", "row"]},
    (questions, "Parting"): {"__init__": ["self", "witness", "window", "kind", "place", "told"]},
    (pools, "Row"): {"__init__": ["self", "rule", "only", "unless"], "stands": ["self", "options"]},
    (pools, "Pool"): {
        "__init__": ["self", "order", "sorts", "ahead", "each", "behind"], "options": None, "loop": ["self", "options"],
        "verdict": ["self", "wish", "options"], "remedies": ["self", "wish"], "harms": ["self", "wish"],
    },
    (sweeps, "Sweep"): {
        "__init__": ["self", "order", "ties", "settles", "skips", "glues", "drops"], "__eq__": None, "__repr__": None,
        "by": ["self", "order"], "__call__": ["self", "spans"], "changes": ["self", "spans"],
        "readings": ["self", "spans"], "peak": ["self", "spans"], "spans_at": ["self", "spans", "level", "exactly"],
    },
    (sweepjudge, "SweepVerdict"): {"__init__": ["self", "right", "witness", "told", "due"], "__bool__": None, "__len__": None},
    (days, "Days"): {
        "__init__": ["self", "length", "offset"], "MOST": None, "__eq__": None, "number": ["self", "moment"],
        "position": ["self", "moment"], "bounds": ["self", "number"], "pieces": ["self", "spans"],
        "joined": ["self", "pieces"], "totals": ["self", "spans"], "drawn": ["self", "spans", "number", "columns"],
        "drawing": ["self", "spans", "first", "last", "columns"],
    },
    (desk, "Desk"): {
        "__init__": ["self"], "do": ["self", "command"], "run": ["self", "commands"], "lines": ["self"],
        "kept": ["self", "name"], "__len__": None, "__contains__": None,
    },
}

PROPERTIES = [
    (spans.Span, "pair"), (spans.Span, "duration"), (spreads.Spread, "hull"), (spreads.Spread, "duration"),
    (loops.Rule, "names"), (loops.Loop, "reads"), (loops.Loop, "registers"), (loops.Loop, "uses_window"),
    (judging.Table, "rows"), (pools.Pool, "options"),
] + [(wish, name) for wish in (wishes.Moments, wishes.Answer, wishes.Number) for name in ("uses_window", "wants_begins")]

# What is passed by name only, with its default.
NAMED = [
    (loops.Rule, {"do": ()}), (loops.Loop, {"ahead": (), "each": (), "behind": ()}),
    (wishes.Moments, {"within": False, "form": "one", "ends": "half"}), (wishes.Answer, {"ends": "half"}),
    (wishes.Number, {"ends": "half"}), (questions.parting, {"ends": "half"}), (questions.alike, {"ends": "half"}),
    (pools.Row, {"only": None, "unless": None}), (pools.Pool, {"sorts": (), "ahead": (), "each": (), "behind": ()}),
    (sweeps.Sweep, {"order": "any", "ties": "ends", "settles": False, "skips": False, "glues": False, "drops": False}),
    (sweeps.Sweep.spans_at, {"exactly": False}), (sweepjudge.judge_sweep, {"level": 1, "ends": "half"}),
    (sweepjudge.sweep_needs, {"level": 1, "ends": "half"}), (sweepjudge.sweep_remedies, {"level": 1, "ends": "half"}),
    (days.Days, {"offset": 0}),
]


class InterfaceTest(unittest.TestCase):

    def test_functions(self):
        for module, names in FUNCTIONS.items():
            for name, parameters in names.items():
                with self.subTest(name=name):
                    held = getattr(module, name)
                    self.assertEqual(held.__module__, module.__name__)
                    self.assertEqual(list(inspect.signature(held).parameters), parameters)

    def test_methods_stand_in_their_own_class(self):
        for (module, name), methods in METHODS.items():
            made = getattr(module, name)
            self.assertEqual(made.__module__, module.__name__)
            for method, parameters in methods.items():
                with self.subTest(name=name, method=method):
                    self.assertIn(method, vars(made))
                    if parameters is not None:
                        held = inspect.getattr_static(made, method)
                        held = getattr(held, "__func__", held)
                        self.assertEqual(list(inspect.signature(held).parameters), parameters)

    def test_kinds(self):
        for made, name in PROPERTIES:
            self.assertIsInstance(vars(made)[name], property)
        for name in ("ever", "since", "until"):
            self.assertIsInstance(vars(spans.Span)[name], staticmethod)
        self.assertIsInstance(vars(spreads.Spread)["of"], staticmethod)
        spread = inspect.signature(spreads.Spread).parameters["spans"]
        self.assertEqual(spread.kind, inspect.Parameter.VAR_POSITIONAL)
        tests = inspect.signature(loops.Rule).parameters["tests"]
        self.assertEqual(tests.kind, inspect.Parameter.VAR_POSITIONAL)
        self.assertTrue(inspect.isgeneratorfunction(loops.steps))
        for wish in (wishes.Moments, wishes.Answer, wishes.Number):
            self.assertEqual(wish.__bases__, (wishes.Wish,))

    def test_what_is_passed_by_name_only(self):
        for made, defaults in NAMED:
            held = inspect.signature(made).parameters.values()
            named = {part.name: part.default for part in held if part.kind is inspect.Parameter.KEYWORD_ONLY}
            self.assertEqual(named, defaults)

    def test_windows_and_ends_may_be_omitted(self):
        for held, name, default in [
            (loops.Loop.__call__, "window", None), (loops.steps, "window", None), (loops.Result.times, "ends", "half"),
            (wishes.Moments.wanted, "window", None), (wishes.Answer.wished, "window", None),
            (wishes.Number.wished, "window", None), (wishes.Moments.fault_of, "window", None),
            (wishes.Answer.fault_of, "window", None), (wishes.Number.fault_of, "window", None),
        ]:
            self.assertEqual(inspect.signature(held).parameters[name].default, default)


if __name__ == "__main__":
    unittest.main()
