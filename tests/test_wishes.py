"""Wishes: what they are, what they want, and the faults of loops."""

import itertools
import random
import unittest

from spanloops.errors import BadEnds, BadItem, BadMoment, BadWindow, BadWish, NoWindow, Unfit
from spanloops.loops import Loop, Rule
from spanloops.spans import FIRST, LAST
from spanloops.wishes import Answer, Fault, Moments, Number, Wish
from tests import known, oracle
from tests.samples import FAR, NO_ENDS, NO_MOMENTS, NO_STRETCHES, NO_WINDOWS, ODD_OBJECTS
from tests.test_loops import NO_EVENTS, scrambled

WHICH = ("some", "none", "all", "one", "two", "each", "inside")
FORMS = ("any", "full", "one", "cut")
ANSWERS = ("busy", "covered", "clash")
NUMBERS = ("all", "full", "left", "within", "touched", "pieces")
ENDS = ("half", "shut")

MOMENTS = [Moments(which, within=within, form=form, ends=ends)
           for which in WHICH for within in (False, True) for form in FORMS for ends in ENDS]
OTHERS = [Answer(what, ends=ends) for what in ANSWERS for ends in ENDS] + [
    Number(what, ends=ends) for what in NUMBERS for ends in ENDS]

PUT = Rule(do=[("put", "begin", "end")])


def told(fault):
    """The attributes of a fault."""
    return None if fault is None else (fault.kind, fault.place, fault.told, fault.due)


def no_words(words):
    """Objects that are none of these words."""
    odd = ODD_OBJECTS + [0, 1, "each,", "some one", ["some"], ("one",)]
    for word in words:
        odd += [word.upper(), word + " ", " " + word, word + "\n", [word], (word,)]
    return odd


class WishTest(unittest.TestCase):

    def test_moments(self):
        made = Moments("some")
        self.assertEqual((made.which, made.within, made.form, made.ends), ("some", False, "one", "half"))
        for which, within, form, ends in itertools.product(WHICH, (False, True), FORMS, ENDS):
            made = Moments(which=which, ends=ends, form=form, within=within)
            self.assertEqual((made.which, made.form, made.ends), (which, form, ends))
            self.assertIs(made.within, within)
            self.assertIs(made.uses_window, within or form == "cut")
            self.assertIs(made.wants_begins, False)
            self.assertIsInstance(made, Wish)

    def test_answer_and_number(self):
        self.assertEqual((Answer("busy").what, Answer("busy").ends), ("busy", "half"))
        self.assertEqual((Number("all").what, Number("all").ends), ("all", "half"))
        for kind, words in [(Answer, ANSWERS), (Number, NUMBERS)]:
            for what, ends in itertools.product(words, ENDS):
                made = kind(what=what, ends=ends)
                self.assertEqual((made.what, made.ends), (what, ends))
                self.assertIs(made.uses_window, what in ("busy", "covered", "left", "within", "touched"))
                self.assertIs(made.wants_begins, what in ("covered", "clash", "pieces"))
                self.assertIsInstance(made, Wish)

    def test_wrong_which_ahead_of_form_ahead_of_ends(self):
        for odd in no_words(WHICH) + ["busy", "full", "covered"]:
            with self.subTest(odd=odd):
                with self.assertRaises(BadWish) as caught:
                    Moments(odd, form="x", ends="x")
                self.assertIs(caught.exception.word, odd)
        for odd in no_words(FORMS) + ["some", "all", "two"]:
            with self.assertRaises(BadWish) as caught:
                Moments("some", form=odd, ends="x")
            self.assertIs(caught.exception.word, odd)
        for odd in NO_ENDS:
            with self.assertRaises(BadEnds) as caught:
                Moments("inside", form="cut", within=True, ends=odd)
            self.assertIs(caught.exception.ends, odd)

    def test_wrong_what_ahead_of_ends(self):
        for kind, words, others in [(Answer, ANSWERS, NUMBERS), (Number, NUMBERS, ANSWERS)]:
            for odd in no_words(words) + list(others) + ["some", "each"]:
                with self.assertRaises(BadWish) as caught:
                    kind(odd, ends="x")
                self.assertIs(caught.exception.word, odd)
            for odd in NO_ENDS:
                with self.assertRaises(BadEnds) as caught:
                    kind(words[0], ends=odd)
                self.assertIs(caught.exception.ends, odd)

    def test_equality(self):
        wishes = MOMENTS + OTHERS
        for (at, one), (place, other) in itertools.product(enumerate(wishes), repeat=2):
            self.assertIs(one == other, at == place)
        for one in wishes:
            self.assertIs(one == one.by(one.ends), True)
            self.assertIs(one != one.by(one.ends), False)
            for odd in ["some", None, (), Wish(), Loop("any")]:
                self.assertFalse(one == odd)
        self.assertFalse(Number("all") == Moments("all"))
        self.assertFalse(Number("full") == Answer("clash"))

    def test_by(self):
        for wish in MOMENTS + OTHERS:
            for ends in ENDS:
                other = wish.by(ends)
                self.assertEqual(vars(other), {**vars(wish), "ends": ends})
                self.assertIs(type(other), type(wish))
                self.assertEqual(wish.by(ends=ends), other)
            for odd in NO_ENDS:
                with self.assertRaises(BadEnds) as caught:
                    wish.by(odd)
                self.assertIs(caught.exception.ends, odd)

    def test_fits(self):
        for order in oracle.KEYS:
            loop = Loop(order)
            for wish in MOMENTS + OTHERS:
                events = isinstance(wish, Moments) and wish.which == "inside"
                self.assertIs(wish.fits(loop), events == order.startswith("at"))


class FaultTest(unittest.TestCase):

    def test_attributes_and_equality(self):
        rows = list(itertools.product(("lost", "extra"), (None, 3, ("each", 1)), (None, 0, True, (1, 2)), (None, 2, False)))
        for one, other in itertools.product(rows, repeat=2):
            self.assertEqual(told(Fault(*one)), one)
            if sorted(map(repr, one)) == sorted(map(repr, other)) or 0 not in one + other:
                self.assertIs(Fault(*one) == Fault(*other), repr(one) == repr(other))
        named = Fault(due=1, told=0, place=5, kind="lost")
        self.assertEqual(told(named), ("lost", 5, 0, 1))
        self.assertEqual(named, Fault("lost", 5, 0, 1))
        for odd in [None, ("lost", 5, 0, 1), "lost", Loop("any")]:
            self.assertFalse(named == odd)


class WantedTest(unittest.TestCase):

    def test_each_which(self):
        spans = [(0, 4), (2, 6), (2, 6), (5, 5), (8, LAST)]
        for which, half, shut in [
            ("some", "0111111001", "0111111101"), ("none", "1000000110", "1000000010"), ("all", "0000000000", "0000000000"),
            ("one", "0110000001", "0110000001"), ("two", "0001111000", "0001111100"), ("each", "0113322001", "0113333201"),
        ]:
            for ends, row in [("half", half), ("shut", shut)]:
                wish = Moments(which, ends=ends)
                made = [wish.wanted(spans, moment) for moment in range(-1, 9)]
                self.assertEqual("".join(map(str, made)), row, (which, ends))
                self.assertEqual([wish.wanted(tuple(spans), moment, (0, 1)) for moment in range(-1, 9)], made)

    def test_all_and_the_empty_list(self):
        for ends in ENDS:
            due = {"some": 0, "none": 1, "all": 1, "one": 0, "two": 0, "each": 0, "inside": 0}
            for which, times in due.items():
                self.assertEqual(Moments(which, ends=ends).wanted([], FIRST + 1), times)
        self.assertEqual([Moments("all").wanted([(0, 4), (2, 6)], moment) for moment in range(6)], [0, 0, 1, 1, 0, 0])
        shut = Moments("all", ends="shut")
        self.assertEqual([shut.wanted([(0, 4), (2, 6)], moment) for moment in range(6)], [0, 0, 1, 1, 1, 0])

    def test_within(self):
        for ends, row in [("half", [0, 0, 2, 2, 0, 0]), ("shut", [0, 0, 2, 2, 2, 0])]:
            wish = Moments("each", within=True, ends=ends)
            self.assertEqual([wish.wanted([(0, 9), (0, 9)], moment, (2, 4)) for moment in range(6)], row)
        self.assertEqual(Moments("none", within=True).wanted([], LAST - 1, window=(3, LAST)), 1)
        self.assertEqual(Moments("none", within=True).wanted([], FIRST + 1, (-FAR, LAST)), 0)
        self.assertEqual(Moments("none", form="cut").wanted([], 9, (3, 5)), 1)

    def test_events(self):
        events = [("out", 0), ("in", 2), ("in", 3), ("out", 3), ("out", 5), ("in", 5)]
        row = [0, 0, 0, 1, 0, 0, 1, 1]
        for ends in ENDS:
            wish = Moments("inside", ends=ends)
            self.assertEqual([wish.wanted(events, moment) for moment in range(-1, 7)], row)
            self.assertEqual(wish.wanted(tuple(events), moment=LAST - 1), 1)
            self.assertEqual(wish.wanted(items=events, moment=FIRST + 1), 0)
        within = [Moments("inside", within=True, ends=ends) for ends in ENDS]
        self.assertEqual([wish.wanted(events, 5, (2, 5)) for wish in within], [0, 1])
        self.assertEqual([wish.wanted(events, 2, (2, 5)) for wish in within], [1, 1])

    def test_all_short_lists(self):
        spans = oracle.all_items(False, 2)
        for wish in MOMENTS:
            events = wish.which == "inside"
            items = oracle.all_items(True, 2) if events else spans
            for rows in itertools.product(items, repeat=2):
                rows = sorted(rows, key=oracle.KEYS["at"]) if events else list(rows)
                for window in [(0, 2), (FIRST, 0), (0, LAST)]:
                    for moment in (-1, 0, 1, 2, 3):
                        due = oracle.wanted(wish, "at", rows, moment, window)
                        self.assertEqual(wish.wanted(rows, moment, window), due)

    def test_errors_in_their_order(self):
        for wish in MOMENTS:
            events = wish.which == "inside"
            good = [("in", 3)] if events else [(1, 2)]
            for odd in NO_EVENTS if events else NO_STRETCHES:
                with self.assertRaises(BadItem) as caught:
                    wish.wanted(good + [odd, None], None, 5)
                self.assertEqual(caught.exception.index, 1)
        for wish in [Moments("some"), Moments("inside", within=True), Moments("each", form="cut")]:
            for odd in NO_MOMENTS:
                with self.assertRaises(BadMoment) as caught:
                    wish.wanted([], odd, 5)
                self.assertIs(caught.exception.moment, odd)
            for odd in NO_WINDOWS:
                with self.assertRaises(BadWindow) as caught:
                    wish.wanted([], 5, odd)
                self.assertIs(caught.exception.window, odd)
        for wish in MOMENTS:
            if wish.uses_window:
                with self.assertRaises(NoWindow) as caught:
                    wish.wanted([], 5)
                self.assertIs(caught.exception.user, wish)
            else:
                wish.wanted([], 5, None)


class WishedTest(unittest.TestCase):

    def test_answers(self):
        for spans, window, busy, covered, clash in [
            ([], (0, 4), "FF", "FF", "FF"), ([(0, 4)], (0, 4), "TT", "TT", "FF"), ([(4, 6)], (0, 4), "FT", "FF", "FF"),
            ([(-3, 0)], (0, 4), "FT", "FF", "FF"), ([(2, 2)], (0, 4), "FT", "FF", "FF"), ([(0, 0)], (0, 4), "FT", "FF", "FF"),
            ([(0, 2), (2, 4)], (0, 4), "TT", "TT", "FT"), ([(2, 4), (0, 2)], (1, 3), "TT", "TT", "FT"),
            ([(0, 2), (3, 4)], (0, 4), "TT", "FF", "FF"), ([(0, 9), (3, 5)], (0, 9), "TT", "TT", "TT"),
            ([(0, 9), (0, 9)], (2, 5), "TT", "TT", "TT"), ([(5, 5), (5, 5)], (2, 5), "FT", "FF", "FT"),
            ([(0, 5), (5, 5)], (0, 5), "TT", "TT", "FT"), ([(0, 5), (3, 3)], (0, 5), "TT", "TT", "FT"),
            ([(FIRST, 2), (2, LAST)], (FIRST, LAST), "TT", "TT", "FT"), ([(FIRST, 2), (3, LAST)], (2, 3), "FT", "FF", "FF"),
            ([(FIRST, 9), (FIRST, 2)], (5, LAST), "TT", "FF", "TT"), ([(7, LAST), (9, LAST)], (9, LAST), "TT", "TT", "TT"),
            ([(0, 2), (0, 2), (5, 6)], (1, 5), "TT", "FF", "TT"), ([(5, 9), (0, 1), (1, 6)], (0, 9), "TT", "TT", "TT"),
        ]:
            for ends, at in [("half", 0), ("shut", 1)]:
                for what, row in [("busy", busy), ("covered", covered), ("clash", clash)]:
                    made = Answer(what, ends=ends).wished(spans, window)
                    self.assertIs(made, row[at] == "T", (what, ends, spans))
                    self.assertIs(Answer(what, ends=ends).wished(spans=tuple(spans[::-1]), window=window), made)
        self.assertIs(Answer("clash").wished([(0, 2), (1, 3)]), True)

    def test_numbers(self):
        for spans, window, rows in [
            ([], (0, 4), "000000 000000"), ([(0, 4)], (0, 4), "111111 111111"), ([(4, 6)], (0, 4), "110001 110011"),
            ([(-3, 0)], (0, 4), "110001 111011"), ([(2, 2)], (0, 4), "100100 110111"), ([(0, 0)], (0, 4), "100100 111111"),
            ([(0, 2), (2, 4)], (1, 4), "221121 221121"), ([(0, 9), (3, 5), (3, 5)], (3, 5), "333231 333231"),
            ([(FIRST, 2), (3, LAST)], (FIRST, LAST), "221222 221222"), ([(5, 5), (5, 5), (5, 6)], (5, 6), "311311 333331"),
            ([(FIRST, LAST)], (FIRST, 0), "111011 111011"), ([(9, 9), (0, 1), (3, 4)], (1, 3), "320002 331023"),
        ]:
            for ends, row in zip(ENDS, rows.split(" ")):
                for what, due in zip(NUMBERS, row):
                    made = Number(what, ends=ends).wished(spans, window)
                    self.assertEqual(made, int(due), (what, ends, spans))
                    self.assertEqual(Number(what, ends=ends).wished(window=window, spans=tuple(spans)), made)
        self.assertEqual([Number(what).wished([(0, 2), (2, 3), (4, 4)]) for what in ("all", "full", "pieces")], [3, 2, 1])

    def test_all_short_lists(self):
        spans, windows = oracle.all_items(False, 3), oracle.all_windows(3)
        for wish in OTHERS:
            for rows in itertools.chain([[]], ([span] for span in spans), itertools.product(spans, repeat=2)):
                for window in windows[::3] if wish.uses_window else [None]:
                    self.assertEqual(wish.wished(rows, window), oracle.wished(wish, rows, window))

    def test_errors_in_their_order(self):
        for wish in OTHERS:
            for odd in NO_STRETCHES + [("in", 3)]:
                with self.assertRaises(BadItem) as caught:
                    wish.wished(((0, 1), odd, None), 5)
                self.assertEqual(caught.exception.index, 1)
            for odd in NO_WINDOWS:
                with self.assertRaises(BadWindow) as caught:
                    wish.wished([(0, 1)], odd)
                self.assertIs(caught.exception.window, odd)
            if wish.uses_window:
                with self.assertRaises(NoWindow) as caught:
                    wish.wished([])
                self.assertIs(caught.exception.user, wish)
            else:
                wish.wished([])


class FaultOfTest(unittest.TestCase):

    def test_broken_comes_first(self):
        each = Loop("any", each=[Rule(("==", "begin", "end")), Rule(do=[("put", "begin", "end"), ("put", "end", "low")])])
        ahead = Loop("any", ahead=[Rule(("<", "low", "first"))])
        behind = Loop("any", behind=[Rule(("set", "low")), Rule(), Rule()])
        for wish in [Moments("some"), Moments("none", form="any"), Answer("clash"), Number("all", ends="shut")]:
            self.assertEqual(told(wish.fault_of(each, [(0, 1)])), ("broken", ("each", 2), None, None))
            self.assertEqual(told(wish.fault_of(ahead, [])), ("broken", ("ahead", 1), None, None))
            fault = wish.fault_of(behind, [])
            self.assertTrue(fault is None or fault.kind != "broken")
        late = Loop("any", behind=[Rule(("set", "low")), Rule(("==", "mark", "mark"))])
        self.assertEqual(told(Number("all").fault_of(late, [])), ("broken", ("behind", 2), None, None))

    def test_moments_lost_extra_and_doubled(self):
        twice = Loop("any", each=[Rule(do=[("put", "begin", "end"), ("put", "begin", "end")])])
        nothing = Loop("any")
        ever = Loop("any", behind=[Rule(do=[("put", "first", "last")])])
        once = Loop("any", each=[PUT])
        for wish, loop, spans, due in [
            (Moments("some"), nothing, [(3, 5)], ("lost", 3, 0, 1)),
            (Moments("each"), nothing, [(3, 5), (1, 4)], ("lost", 1, 0, 1)),
            (Moments("each", form="any"), twice, [(3, 5), (1, 4)], ("doubled", 1, 2, 1)),
            (Moments("some", form="any"), once, [(3, 5), (1, 4)], ("doubled", 3, 2, 1)),
            (Moments("some", form="any", ends="shut"), once, [(3, 5), (1, 3)], ("doubled", 3, 2, 1)),
            (Moments("some", form="any"), once, [(3, 5), (1, 3)], None),
            (Moments("one", form="any"), once, [(3, 5), (1, 4)], ("extra", 3, 2, 0)),
            (Moments("two", form="any"), once, [(3, 5), (1, 4)], ("extra", 1, 1, 0)),
            (Moments("two", form="any"), nothing, [(3, 5), (1, 4)], ("lost", 3, 0, 1)),
            (Moments("none"), nothing, [], ("lost", FIRST + 1, 0, 1)),
            (Moments("none"), ever, [], None),
            (Moments("all"), nothing, [(3, 5)], ("lost", 3, 0, 1)),
            (Moments("some"), ever, [], ("extra", FIRST + 1, 1, 0)),
            (Moments("some"), ever, [(FIRST, 3)], ("extra", 3, 1, 0)),
            (Moments("some", ends="shut"), ever, [(FIRST, 3)], ("extra", 4, 1, 0)),
            (Moments("some"), ever, [(FIRST, FAR)], ("extra", FAR, 1, 0)),
            (Moments("some", ends="shut"), ever, [(FIRST, FAR)], ("extra", FAR + 1, 1, 0)),
            (Moments("some"), ever, [(-FAR, LAST)], ("extra", FIRST + 1, 1, 0)),
            (Moments("some"), ever, [(FIRST, LAST)], None),
            (Moments("some"), nothing, [(FIRST, -FAR)], ("lost", FIRST + 1, 0, 1)),
            (Moments("some"), nothing, [(FAR, LAST)], ("lost", FAR, 0, 1)),
            (Moments("each", form="any"), ever, [(-FAR, LAST), (FIRST, 0), (0, 5)], ("lost", -FAR, 1, 2)),
            (Moments("none", form="any"), ever, [(5, 5), (7, 9)], ("extra", 7, 1, 0)),
            (Moments("none", form="any", ends="shut"), ever, [(5, 5), (7, 9)], ("extra", 5, 1, 0)),
        ]:
            self.assertEqual(told(wish.fault_of(loop, spans)), due)
            self.assertEqual(told(wish.fault_of(loop=loop, items=tuple(spans), window=(0, 1))), due)

    def test_moments_in_a_window(self):
        window = Loop("any", behind=[Rule(do=[("put", "left", "right")])])
        for wish, loop, spans, due in [
            (Moments("none", within=True), window, [], None),
            (Moments("none", within=True), window, [(4, 9)], ("extra", 4, 1, 0)),
            (Moments("some", within=True), window, [], ("extra", 2, 1, 0)),
            (Moments("some", within=True), known.joining(), [(0, 9)], ("extra", 0, 1, 0)),
            (Moments("some", within=True), known.joining(), [(6, 9)], ("extra", 6, 1, 0)),
            (Moments("some", within=True, ends="shut"), known.joining(), [(3, 9)], ("extra", 7, 1, 0)),
            (Moments("some", within=True), Loop("any"), [(0, 5)], ("lost", 2, 0, 1)),
            (Moments("none", within=True, ends="shut"), Loop("any"), [(0, 5)], ("lost", 6, 0, 1)),
            (Moments("none", within=True), known.gaps_in_window(), [(4, 5), (5, 5)], None),
        ]:
            self.assertEqual(told(wish.fault_of(loop, spans, (2, 6))), due)

    def test_a_pair_that_is_upside_down_is_empty(self):
        loop = Loop("any", each=[Rule(do=[("put", "begin", "end"), ("keep", "low", "begin"), ("keep", "high", "end")])],
                    behind=[Rule(do=[("put", "high", "low")])])
        for form, ends in itertools.product(("full", "one", "cut"), ENDS):
            wish = Moments("some", form=form, ends=ends)
            self.assertEqual(told(wish.fault_of(loop, [(0, 2), (4, 6)], (4, 9))), ("empty", 2, (6, 4), None))
        self.assertIsNone(Moments("some", form="any", ends="shut").fault_of(loop, [(0, 2), (4, 6)]))

    def test_the_first_pair_out_of_form_is_told(self):
        both = Loop("any", each=[PUT])
        for wish, spans, window, due in [
            (Moments("some"), [(3, 3)], None, ("empty", 0, (3, 3), None)),
            (Moments("some", ends="shut"), [(3, 3)], None, None),
            (Moments("some"), [(0, 2), (4, 6), (5, 5)], None, ("empty", 2, (5, 5), None)),
            (Moments("some"), [(4, 6), (0, 2), (5, 5)], None, ("order", 1, (0, 2), None)),
            (Moments("some"), [(0, 2), (2, 4), (7, 7)], None, ("touching", 1, (2, 4), None)),
            (Moments("some", ends="shut"), [(2, 4), (0, 1)], None, ("order", 1, (0, 1), None)),
            (Moments("some", ends="shut"), [(0, 1), (2, 4)], None, None),
            (Moments("some", form="full"), [(4, 6), (0, 2), (2, 4)], None, None),
            (Moments("some", form="full"), [(4, 6), (0, 2), (5, 5), (1, 1)], None, ("empty", 2, (5, 5), None)),
            (Moments("some", form="any"), [(4, 6), (5, 5)], None, None),
            (Moments("each", form="cut"), [(4, 6), (0, 2)], (3, 9), None),
            (Moments("each", form="cut"), [(4, 6), (0, 5), (1, 9)], (3, 9), ("crossing", 1, (0, 5), None)),
            (Moments("each", form="cut"), [(3, 6), (0, 3), (3, 3)], (3, 9), ("empty", 2, (3, 3), None)),
            (Moments("each", form="cut"), [(0, 5), (3, 3)], (3, 9), ("crossing", 0, (0, 5), None)),
            (Moments("each", form="cut", ends="shut"), [(3, 3), (0, 3), (0, 4)], (3, 9), ("crossing", 2, (0, 4), None)),
            (Moments("each", form="cut"), [(FIRST, LAST)], (FIRST, 9), None),
            (Moments("each", form="cut"), [(FIRST, LAST)], (-FAR, 9), ("crossing", 0, (FIRST, LAST), None)),
            (Moments("some"), [(0, 4), (4, 4), (4, 5)], None, ("empty", 1, (4, 4), None)),
        ]:
            self.assertEqual(told(wish.fault_of(both, spans, window)), due)

    def test_lost_moments_come_ahead_of_pairs_out_of_form(self):
        loop = Loop("any", each=[Rule(("==", "begin", "end"), do=[("put", "begin", "end")])])
        self.assertEqual(told(Moments("some").fault_of(loop, [(3, 3), (5, 6)])), ("lost", 5, 0, 1))
        upside = Loop("any", each=[Rule(do=[("put", "end", "begin")])])
        self.assertEqual(told(Moments("some").fault_of(upside, [(3, 6)])), ("lost", 3, 0, 1))
        self.assertEqual(told(Moments("some").fault_of(upside, [(3, 3)])), ("empty", 0, (3, 3), None))

    def test_answers(self):
        for said, due in itertools.product((True, False, None), (True, False)):
            rules = [] if said is None else [Rule(do=[("say", said)])]
            loop = Loop("any", behind=rules)
            spans = [(0, 3), (2, 5)] if due else [(0, 3), (3, 5)]
            fault = None if said is due else ("answer", None, said, due)
            made = told(Answer("clash").fault_of(loop, spans))
            self.assertEqual(repr(made), repr(fault))
        self.assertEqual(told(Answer("busy", ends="shut").fault_of(known.busy_half(), [(0, 3)], (3, 5))),
                         ("answer", None, False, True))
        self.assertIsNone(Answer("busy").fault_of(known.busy_half(), [(0, 3)], (3, 5)))

    def test_numbers(self):
        loop = known.counting(skips=True)
        self.assertIsNone(Number("full").fault_of(loop, [(0, 3), (3, 3), (FIRST, 0)]))
        self.assertEqual(told(Number("all").fault_of(loop, [(0, 3), (3, 3), (FIRST, 0)])), ("number", None, 2, 3))
        self.assertEqual(told(Number("pieces").fault_of(loop, [(0, 3), (3, 3), (FIRST, 0)])), ("number", None, 2, 1))
        self.assertEqual(told(Number("left").fault_of(Loop("any", ahead=[Rule(do=[("add", -2)])]), [], (0, 1))),
                         ("number", None, -2, 0))

    def test_what_a_wish_does_not_name_does_not_matter(self):
        loud = Loop("any", each=[Rule(do=[("add", 3), ("put", "begin", "end")])], behind=[Rule(do=[("say", True)])])
        self.assertIsNone(Moments("each", form="any").fault_of(loud, [(0, 3), (1, 2)]))
        self.assertIsNone(Answer("clash").fault_of(loud, [(0, 3), (1, 2)]))
        steady = Loop("any", each=[Rule(do=[("add", 1), ("put", "begin", "end")])], behind=[Rule(do=[("say", True)])])
        self.assertIsNone(Number("all").fault_of(steady, [(0, 3), (1, 1)]))

    def test_items_that_are_not_read_count(self):
        early = Loop("begin", each=[Rule(do=[("put", "begin", "end"), ("stop",)])])
        self.assertEqual(told(Moments("some").fault_of(early, [(4, 6), (0, 2)])), ("lost", 4, 0, 1))
        self.assertEqual(told(Number("all").fault_of(Loop("any", ahead=[Rule(do=[("say", True)])]), [(0, 1)])),
                         ("number", None, 0, 1))

    def test_events(self):
        wish = Moments("inside")
        for order, events, due in [
            ("at", [("in", 2), ("out", 5)], None), ("at", [("out", 5), ("in", 2)], None),
            ("at", [("in", 2), ("out", 2)], ("empty", 0, (2, 2), None)),
            ("at", [("in", 0), ("out", 2), ("in", 2)], ("touching", 1, (2, LAST), None)),
            ("at in", [("in", 0), ("out", 2), ("in", 2)], None), ("at out", [("out", 2), ("in", 2)], None),
        ]:
            self.assertEqual(told(wish.fault_of(known.switches(order), events)), due)
        self.assertEqual(told(wish.fault_of(Loop("at"), [("in", -FAR)])), ("lost", -FAR, 0, 1))
        self.assertEqual(told(Moments("inside", ends="shut").fault_of(known.switches(), [("in", 1), ("out", 5)])),
                         ("extra", 5, 1, 0))

    def test_errors_in_their_order(self):
        uses = Loop("any", each=[Rule(("<", "left", "begin"))])
        plain, events = Loop("any"), Loop("at")
        for wish in MOMENTS + OTHERS:
            inside = isinstance(wish, Moments) and wish.which == "inside"
            with self.assertRaises(Unfit) as caught:
                wish.fault_of(plain if inside else events, [None], 5)
            self.assertIs(caught.exception.wish, wish)
            fit = [events, Loop("at", ahead=[Rule(("<", "left", "right"))])] if inside else [plain, uses]
            for loop in fit:
                for odd in (NO_EVENTS if inside else NO_STRETCHES)[::5]:
                    with self.assertRaises(BadItem) as caught:
                        wish.fault_of(loop, [odd, None], 5)
                    self.assertEqual(caught.exception.index, 0)
                for odd in NO_WINDOWS[::5]:
                    with self.assertRaises(BadWindow) as caught:
                        wish.fault_of(loop, [], odd)
                    self.assertIs(caught.exception.window, odd)
            with self.assertRaises(NoWindow) as caught:
                wish.fault_of(fit[1], [])
            self.assertIs(caught.exception.user, fit[1])
            if wish.uses_window:
                with self.assertRaises(NoWindow) as caught:
                    wish.fault_of(fit[0], [])
                self.assertIs(caught.exception.user, wish)
            else:
                wish.fault_of(fit[0], [])

    def test_scrambled_loops(self):
        source = random.Random(2)
        kinds = {False: [wish for wish in MOMENTS + OTHERS if not getattr(wish, "which", "") == "inside"],
                 True: [wish for wish in MOMENTS if wish.which == "inside"]}
        for events, wishes in kinds.items():
            items, windows = oracle.all_items(events, 4), oracle.all_windows(4)
            loops = [loop for loop, _ in known.RIGHT if (loop.reads == "events") == events]
            for _ in range(2500):
                loop = scrambled(source, events) if source.random() < 0.5 else source.choice(loops)
                rows, window = source.choices(items, k=source.randint(0, 4)), source.choice(windows)
                wish = source.choice(wishes)
                due = oracle.fault(loop, wish, rows, window)
                self.assertEqual(repr(told(wish.fault_of(loop, rows, window))), repr(due))
                self.assertEqual(wish.fault_of(loop, rows, window), wish.fault_of(loop, tuple(rows), window))

    def test_nothing_is_changed(self):
        spans = [(3, 5), (0, 4)]
        loop, wish = known.joining(), Moments("some")
        wish.fault_of(loop, spans)
        wish.wanted(spans, 3)
        Answer("clash").wished(spans)
        self.assertEqual(spans, [(3, 5), (0, 4)])
        self.assertEqual((loop, wish), (known.joining(), Moments("some")))

    def test_long_lists(self):
        spans = [(2 * k, 2 * k + 1) for k in range(1000)]
        self.assertIsNone(Moments("some").fault_of(known.joining(), spans[::-1]))
        self.assertEqual(told(Moments("none").fault_of(known.joining(), spans)), ("lost", FIRST + 1, 0, 1))


if __name__ == "__main__":
    unittest.main()
