"""Rules and loops as they are made: what is kept, what is refused, and in which order."""

import itertools
import unittest

from spanloops.errors import BadDeed, BadOrder, BadRule, BadTest, BadUse, TooMany
from spanloops.loops import Loop, Rule
from spanloops.spans import Span
from tests.samples import NESTED, ODD_OBJECTS

REGISTERS = ("low", "high", "mark")
NAMES = REGISTERS + ("left", "right", "first", "last", "begin", "end", "at")
SIGNS = ("<", "<=", "==", "!=")
STRETCH_ORDERS = ("any", "begin", "begin end", "begin back", "end", "end begin", "end back")
EVENT_ORDERS = ("at", "at in", "at out")

TESTS = (
    [(sign, one, other) for sign in SIGNS for one in NAMES for other in NAMES]
    + [(word, name) for word in ("set", "unset") for name in REGISTERS]
    + [("in",), ("out",)]
)
TERMS = list(NAMES) + [(word, one, other) for word in ("min", "max") for one in NAMES for other in NAMES]
DEEDS = (
    [("keep", name, term) for name in REGISTERS for term in TERMS]
    + [("drop", name) for name in REGISTERS]
    + [("put", one, "end") for one in TERMS] + [("put", "mark", other) for other in TERMS]
    + [("add", number) for number in range(-9, 10)]
)
LAST_DEEDS = [("say", True), ("say", False), ("stop",)]

NO_TESTS = ODD_OBJECTS + [
    0, 1, "in", "low", ["in"], ["<", "low", "high"], ["set", "low"], (("in",),), ("in", "out"), ("inn",), ("IN",),
    ("set",), ("set", "begin"), ("set", "left"), ("set", "first"), ("set", ["low"]), ("set", True), ("unset", 0),
    ("unset", "low", "high"), ("isset", "low"), (">", "low", "high"), (">=", "low", "high"), ("=", "low", "high"),
    ("<", "low"), ("<", "low", "high", "mark"), ("<", "low", 3), ("<", 3, "low"), ("<", "low", True),
    ("<", ["low"], "high"), ("<", "low", ("high",)), ("<", ("min", "low", "high"), "mark"), ("low", "<", "high"),
    ("<", "low", "middle"), ("<", "", "low"), (True, "low", "high"), (["<"], "low", "high"), ("<=", "at ", "low"),
    ("stop",), ("drop", "low"), ("min", "low", "high"), ("in", None), (None,), (("<", "low", "high"),),
]

NO_TERMS = [
    0, True, False, None, "", "middle", "LOW", "low ", ["low"], ("low",), ("min", "low"), ("max", "low", "high", "mark"),
    ["min", "low", "high"], ("min", "low", ("max", "low", "high")), ("min", ["low"], "high"), ("mid", "low", "high"),
    ("min", 0, "low"), ("min", "low", True), (True, "low", "high"), (), [], ("add", 1), NESTED,
]

NO_DEEDS = ODD_OBJECTS + [
    0, 1, "stop", ["stop"], ["add", 1], ["put", "low", "high"], ["keep", "low", "high"], ("stop", "low"), ("stop", None),
    ("halt",), ("keep",), ("keep", "low"), ("keep", "low", "high", "mark"), ("keep", "begin", "low"),
    ("keep", "left", "low"), ("keep", "first", "low"), ("keep", ["low"], "high"), ("keep", 0, "high"), ("drop",),
    ("drop", "begin"), ("drop", "low", "high"), ("drop", ["low"]), ("drop", True), ("put",), ("put", "low"),
    ("put", "low", "high", "mark"), ("set", "low"), ("unset", "low"), ("add",), ("add", 10), ("add", -10), ("add", True),
    ("add", False), ("add", None), ("add", "1"), ("add", [1]), ("add", 10 ** 39), ("add", 1, 1), ("say",), ("say", 1),
    ("say", 0), ("say", None), ("say", "yes"), ("say", [True]), ("say", True, False), (True, "low"), (1, 2), (None,),
    ("in",), ("<", "low", "high"), (("stop",),), ("add", ("add", 1)), ("tell", True), ("set", False), (None, True),
    ("keep", True), ("in", False),
] + [("keep", "low", term) for term in NO_TERMS] + [("put", term, "end") for term in NO_TERMS] + [
    ("put", "low", term) for term in NO_TERMS
]

A_TEST, A_DEED = ("set", "low"), ("add", 1)


class RuleTest(unittest.TestCase):

    def test_keeps_tests_and_deeds_as_tuples_in_their_order(self):
        tests = [("unset", "mark"), ("<", "low", "high"), ("in",), ("set", "low")]
        deeds = [("put", "low", "high"), ("add", -9), ("drop", "low"), ("say", False)]
        for held in (deeds, tuple(deeds)):
            rule = Rule(*tests, do=held)
            self.assertEqual(rule.tests, tuple(tests))
            self.assertEqual(rule.deeds, tuple(deeds))
            self.assertIsInstance(rule.tests, tuple)
            self.assertIsInstance(rule.deeds, tuple)
        self.assertEqual((Rule().tests, Rule().deeds), ((), ()))
        self.assertEqual((Rule(*tests).tests, Rule(*tests).deeds), (tuple(tests), ()))
        self.assertEqual((Rule(do=deeds).tests, Rule(do=deeds).deeds), ((), tuple(deeds)))

    def test_a_list_that_was_passed_may_change_later(self):
        deeds = [A_DEED]
        rule = Rule(do=deeds)
        deeds.append(("stop",))
        self.assertEqual(rule.deeds, (A_DEED,))

    def test_takes_every_test(self):
        for test in TESTS:
            self.assertEqual(Rule(test).tests, (test,))
            self.assertEqual(Rule(A_TEST, test, do=[A_DEED]).tests, (A_TEST, test))

    def test_takes_every_deed(self):
        for deed in DEEDS:
            self.assertEqual(Rule(do=[deed]).deeds, (deed,))
            self.assertEqual(Rule(do=[deed, A_DEED]).deeds, (deed, A_DEED))
        for deed in LAST_DEEDS:
            self.assertEqual(Rule(do=(A_DEED, deed)).deeds, (A_DEED, deed))

    def test_refuses_what_is_no_test(self):
        for odd in NO_TESTS:
            for tests in [(odd,), (A_TEST, odd), (odd, 5), (A_TEST, A_TEST, A_TEST, A_TEST, odd, None)]:
                with self.subTest(tests=tests):
                    with self.assertRaises(BadTest) as caught:
                        Rule(*tests, do=[None] * 5)
                    self.assertIs(caught.exception.test, odd)

    def test_refuses_what_is_no_deed(self):
        for odd in NO_DEEDS:
            for deeds in [[odd], (A_DEED, odd), [odd, None], [A_DEED] * 5 + [odd], [odd, ("stop",), A_DEED]]:
                with self.subTest(deeds=deeds):
                    with self.assertRaises(BadDeed) as caught:
                        Rule(A_TEST, do=deeds)
                    self.assertIs(caught.exception.deed, odd)

    def test_refuses_a_say_or_a_stop_ahead_of_another_deed(self):
        for deed in LAST_DEEDS:
            for deeds in [[deed, A_DEED], [deed, deed], [A_DEED, deed, A_DEED], [A_DEED, A_DEED, A_DEED, deed, A_DEED],
                          (deed, None), [deed] + [A_DEED] * 7]:
                with self.subTest(deeds=deeds):
                    with self.assertRaises(BadDeed) as caught:
                        Rule(do=deeds)
                    self.assertIs(caught.exception.deed, deed)

    def test_refuses_too_many(self):
        for rule in [lambda: Rule(*[A_TEST] * 5), lambda: Rule(*[A_TEST] * 9, do=[None]),
                     lambda: Rule(*[A_TEST] * 5, do=[A_DEED] * 5), lambda: Rule(do=[A_DEED] * 5),
                     lambda: Rule(do=[A_DEED] * 4 + [("stop",)]), lambda: Rule(*[A_TEST] * 4, do=(A_DEED,) * 6)]:
            with self.assertRaises(TooMany) as caught:
                rule()
            self.assertEqual(caught.exception.limit, 4)
        self.assertEqual(len(Rule(*[A_TEST] * 4, do=[A_DEED] * 4).deeds), 4)

    def test_names(self):
        for rule, names in [
            (Rule(), ()), (Rule(("in",), do=[("add", 3), ("say", True)]), ()), (Rule(("out",), do=[("stop",)]), ()),
            (Rule(("set", "mark")), ("mark",)), (Rule(("unset", "low")), ("low",)),
            (Rule(("<", "right", "begin")), ("begin", "right")), (Rule(("==", "at", "at")), ("at",)),
            (Rule(do=[("drop", "high")]), ("high",)), (Rule(do=[("keep", "high", "end")]), ("end", "high")),
            (Rule(do=[("keep", "low", "low")]), ("low",)),
            (Rule(do=[("keep", "low", ("min", "left", "begin"))]), ("begin", "left", "low")),
            (Rule(do=[("put", "last", "first")]), ("first", "last")),
            (Rule(do=[("put", ("max", "low", "begin"), ("min", "high", "end"))]), ("begin", "end", "high", "low")),
            (Rule(("set", "mark"), ("!=", "right", "left"), do=[("drop", "low"), ("put", "first", "mark")]),
             ("first", "left", "low", "mark", "right")),
        ]:
            self.assertEqual(rule.names, names)
            self.assertIsInstance(rule.names, tuple)

    def test_equality(self):
        rules = [Rule(), Rule(A_TEST), Rule(("set", "high")), Rule(do=[A_DEED]), Rule(A_TEST, do=[A_DEED]),
                 Rule(A_TEST, A_TEST), Rule(A_TEST, ("in",)), Rule(("in",), A_TEST), Rule(do=[A_DEED, A_DEED]),
                 Rule(do=[("add", 0)]), Rule(do=[("say", True)]), Rule(do=[("say", False)])]
        for (at, one), (place, other) in itertools.product(enumerate(rules), repeat=2):
            self.assertIs(one == other, at == place)
            self.assertIs(one != other, at != place)
        self.assertTrue(Rule(A_TEST, do=[A_DEED]) == Rule(A_TEST, do=(A_DEED,)))
        for other in [(), None, ((), ()), Loop("any"), Span(0, 1), False]:
            self.assertFalse(Rule() == other)


class LoopTest(unittest.TestCase):

    ahead = Rule(do=[("keep", "low", "left")])
    stretch = Rule(("<", "begin", "high"), do=[("stop",)])
    event = Rule(("in",), do=[("keep", "mark", "at")])
    behind = Rule(("set", "low"), do=[("say", True)])

    def test_attributes(self):
        for order in STRETCH_ORDERS + EVENT_ORDERS:
            each = self.stretch if order in STRETCH_ORDERS else self.event
            for kind in (list, tuple):
                loop = Loop(order, ahead=kind([self.ahead]), each=kind([each, each]), behind=kind([self.behind]))
                self.assertEqual(loop.order, order)
                self.assertEqual(loop.reads, "stretches" if order in STRETCH_ORDERS else "events")
                rows = [("ahead", (self.ahead,)), ("each", (each, each)), ("behind", (self.behind,))]
                for word, rules in rows:
                    self.assertIsInstance(getattr(loop, word), tuple)
                    self.assertEqual(getattr(loop, word), rules)
                    self.assertEqual(loop.part(word), rules)
                    self.assertIsInstance(loop.part(word=word), tuple)
            plain = Loop(order)
            self.assertEqual((plain.ahead, plain.each, plain.behind), ((), (), ()))
            self.assertEqual((plain.registers, plain.uses_window), ((), False))
        self.assertEqual(Loop(order="at").reads, "events")

    def test_a_list_that_was_passed_may_change_later(self):
        rules = [self.stretch]
        loop = Loop("any", each=rules)
        rules.append(None)
        self.assertEqual(loop.each, (self.stretch,))

    def test_registers_and_window(self):
        for rule, registers, uses_window in [
            (Rule(("in",), do=[("add", 1)]), (), False), (Rule(("set", "mark"), do=[("drop", "low")]), ("low", "mark"), False),
            (Rule(("unset", "high")), ("high",), False), (Rule(do=[("keep", "mark", "first")]), ("mark",), False),
            (Rule(do=[("put", ("max", "mark", "low"), "high")]), ("low", "high", "mark"), False),
            (Rule(("<", "left", "last")), (), True), (Rule(do=[("put", "low", ("min", "first", "right"))]), ("low",), True),
            (Rule(do=[("keep", "high", "right")]), ("high",), True),
        ]:
            loops = [Loop("at", each=[rule])]
            if ("in",) not in rule.tests:
                loops += [Loop("any", ahead=[rule]), Loop("end", behind=[Rule(), rule]), Loop("at in", ahead=[rule])]
            for loop in loops:
                self.assertEqual(loop.registers, registers)
                self.assertIs(loop.uses_window, uses_window)
        loop = Loop("any", ahead=[Rule(("set", "mark"))], each=[Rule(("set", "low"))], behind=[Rule(("<", "right", "high"))])
        self.assertEqual(loop.registers, ("low", "high", "mark"))
        self.assertIs(loop.uses_window, True)

    def test_refuses_what_is_no_order_ahead_of_all(self):
        odd = ODD_OBJECTS + [0, 1, "Begin", "begin ", " begin", "begin  end", "end end", "in", "at at", "begin,end",
                             ["any"], ("any",), ("begin", "end"), "back"]
        for order in odd:
            with self.subTest(order=order):
                with self.assertRaises(BadOrder) as caught:
                    Loop(order, ahead=[None] * 7, each=[self.event] * 7)
                self.assertIs(caught.exception.order, order)

    def assert_refused(self, kind, told, order, **parts):
        with self.assertRaises(kind) as caught:
            Loop(order, **parts)
        self.assertEqual(vars(caught.exception), told)

    def test_refuses_what_is_no_rule(self):
        for odd in ODD_OBJECTS + [0, A_TEST, (self.ahead,), [self.ahead], Loop("any")]:
            for word in ("ahead", "each", "behind"):
                for rules in [[odd], (Rule(), odd, None), [Rule()] * 7 + [odd], [Rule(("set", "low"))] * 2 + [odd]]:
                    with self.assertRaises(BadRule) as caught:
                        Loop("any", **{word: rules})
                    self.assertIs(caught.exception.rule, odd)

    def test_checks_part_for_part_and_in_a_part_kind_ahead_of_number_ahead_of_use(self):
        bad = Rule(("in",))
        for word, later in [("ahead", ("each", "behind")), ("each", ("behind",)), ("behind", ())]:
            more = {name: [None] for name in later}
            self.assert_refused(BadRule, {"rule": "x"}, "any", **{word: [bad] * 7 + ["x"]}, **more)
            self.assert_refused(TooMany, {"limit": 6}, "any", **{word: [bad] * 7}, **more)
            self.assert_refused(TooMany, {"limit": 6}, "any", **{word: (Rule(),) * 8}, **more)
            self.assert_refused(BadUse, {"place": (word, 6)}, "any", **{word: [Rule()] * 5 + [bad]}, **more)
            self.assert_refused(BadUse, {"place": (word, 1)}, "any", **{word: [bad, bad]}, **more)
        self.assertEqual(len(Loop("any", ahead=[Rule()] * 6, each=[Rule()] * 6, behind=[Rule()] * 6).each), 6)

    def test_what_may_not_stand_ahead_and_behind(self):
        for rule in [Rule(("in",)), Rule(("out",)), Rule(do=[("stop",)])]:
            for order, word in itertools.product(STRETCH_ORDERS + EVENT_ORDERS, ("ahead", "behind")):
                self.assert_refused(BadUse, {"place": (word, 2)}, order, **{word: [Rule(), rule]})
        for name in ("begin", "end", "at"):
            for rule in [Rule(("<", "low", name)), Rule(("==", name, "low")), Rule(do=[("keep", "low", name)]),
                         Rule(do=[("put", "first", name)]), Rule(do=[("put", ("min", "low", name), "last")]),
                         Rule(do=[("keep", "low", ("max", name, "low"))])]:
                for order, word in itertools.product(("begin", "at"), ("ahead", "behind")):
                    self.assert_refused(BadUse, {"place": (word, 1)}, order, **{word: [rule]})

    def test_what_may_not_stand_in_each(self):
        for order in STRETCH_ORDERS:
            for rule in [Rule(("in",)), Rule(A_TEST, ("out",)), Rule(("<", "at", "begin")), Rule(do=[("put", "begin", "at")]),
                         Rule(do=[A_DEED, ("keep", "low", ("min", "at", "end"))])]:
                self.assert_refused(BadUse, {"place": ("each", 3)}, order, each=[Rule(), self.stretch, rule])
            self.assertEqual(Loop(order, each=[self.stretch]).each, (self.stretch,))
        for order in EVENT_ORDERS:
            for rule in [Rule(("<", "begin", "low")), Rule(("!=", "at", "end")), Rule(do=[("put", "at", "end")]),
                         Rule(do=[A_DEED, ("keep", "low", ("max", "begin", "at"))])]:
                self.assert_refused(BadUse, {"place": ("each", 2)}, order, each=[self.event, rule])
            rule = Rule(("out",), do=[("put", "low", "at"), ("stop",)])
            self.assertEqual(Loop(order, each=[rule]).each, (rule,))

    def test_what_may_stand_ahead_and_behind(self):
        for rule in [Rule(("<", "left", "right"), do=[("say", True)]), Rule(("set", "low"), do=[("put", "low", "last")]),
                     Rule(("unset", "low"), do=[("add", -9), ("drop", "mark"), ("keep", "high", ("min", "first", "left"))])]:
            loop = Loop("at", ahead=[rule], behind=[rule])
            self.assertEqual((loop.ahead, loop.behind), ((rule,), (rule,)))

    def test_by(self):
        loop = Loop("begin", ahead=[self.ahead], each=[self.stretch], behind=[self.behind])
        for order in STRETCH_ORDERS:
            other = loop.by(order)
            self.assertEqual((other.order, other.ahead, other.each, other.behind),
                             (order, loop.ahead, loop.each, loop.behind))
            self.assertIs(other == loop, order == "begin")
        self.assertEqual(loop.order, "begin")
        for order in ODD_OBJECTS + list(EVENT_ORDERS) + ["Any", ["any"], 0]:
            with self.assertRaises(BadOrder) as caught:
                loop.by(order)
            self.assertIs(caught.exception.order, order)
        events = Loop("at", each=[self.event])
        for order in EVENT_ORDERS:
            self.assertEqual(events.by(order=order), Loop(order, each=[self.event]))
        for order in STRETCH_ORDERS:
            self.assertRaises(BadOrder, events.by, order)

    def test_equality(self):
        rule, other = Rule(A_TEST), Rule(do=[A_DEED])
        loops = [Loop("any"), Loop("begin"), Loop("at"), Loop("any", ahead=[rule]), Loop("any", each=[rule]),
                 Loop("any", behind=[rule]), Loop("any", each=[other]), Loop("any", each=[rule, other]),
                 Loop("any", each=[other, rule])]
        for (at, one), (place, two) in itertools.product(enumerate(loops), repeat=2):
            self.assertIs(one == two, at == place)
            self.assertIs(one != two, at != place)
        self.assertTrue(Loop("any", each=[Rule(A_TEST)]) == Loop("any", each=(Rule(A_TEST),)))
        for odd in ["any", None, rule, (), ("any", (), (), ())]:
            self.assertFalse(Loop("any") == odd)


if __name__ == "__main__":
    unittest.main()
