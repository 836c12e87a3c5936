"""The desk: its commands, what they answer and keep, and what takes them back."""

import random
import unittest

from spanloops.days import Days
from spanloops.desk import Desk
from spanloops.errors import BadColumns, BadCommand, BadItem, BadOrder, BadUse, NoName, NoRow, NoSpan, NoWindow, TooFar, TooMany
from spanloops.errors import TooWide, Unfit
from spanloops.judging import judge
from spanloops.loops import Loop, Rule
from spanloops.questions import needs, parting
from spanloops.spans import FIRST, LAST, Span, union
from spanloops.spreads import Spread
from spanloops.sweeps import Sweep
from spanloops.texts import write_items, write_loop, write_pairs, write_wish
from spanloops.wishes import Answer, Moments, Number
from tests import known
from tests.samples import FAR, ODD_OBJECTS
from tests.test_rules import EVENT_ORDERS, STRETCH_ORDERS

SOURCE = random.Random(3)
SPANS = [(0, 5), (6, 9), (6, 6), (3, 4), (9, 12), (FIRST, -3), (20, LAST), (2, 2), (-5, 1)]
EVENTS = [("in", 3), ("out", 5), ("out", 1), ("in", 5)]

JOIN = ["loop join begin", "rule join each set high, begin <= high: keep high max high end",
        "rule join each unset high: keep low begin; keep high end",
        "rule join each else: put low high; keep low begin; keep high end", "rule join behind set high: put low high"]

CHANGES = ["list", "add", "take", "copy", "forget", "loop", "rule", "unrule"]


def filled():
    """A desk with lists and loops."""
    desk = Desk()
    desk.run(["list a 0..5 6..9", "list b 3..7 8..8", "list none none", "list ins in@3 out@5", "loop ends end", "loop at at in",
              "rule ends each else: add 1", "rule ends behind else: put first first"] + JOIN)
    return desk


def kept(desk):
    """All that a desk keeps."""
    return list(desk.lines())


class DeskCase(unittest.TestCase):

    def does(self, desk, *told):
        """The commands have these answers."""
        for command, answer in zip(told[::2], told[1::2]):
            made = desk.do(command)
            self.assertEqual(made, answer, command)
            self.assertIsInstance(made, str)

    def fails(self, desk, command, made, *told):
        """The command raises this error with this attribute, and nothing changes."""
        before, size = kept(desk), len(desk)
        for call in (desk.do, lambda command: desk.run(["names", command, "no command"])):
            with self.assertRaises(made, msg=command) as caught:
                call(command)
            self.assertIs(caught.exception.__class__, made, command)
            self.assertEqual(repr(list(vars(caught.exception).values())), repr(list(told)), command)
            self.assertEqual((kept(desk), len(desk)), (before, size))


class KeepTest(DeskCase):

    def test_lists(self):
        desk = Desk()
        self.does(desk, "list a 0..5 6..9", "2", "show a", "0..5 6..9", "list a none", "0", "show a", "none", "add a 3..3", "1",
                  "add a first..last", "2", "show a", "3..3 first..last", "take a 0", "3..3", "show a", "first..last", "take a 0", "first..last",
                  "show a", "none", "list a in@5 out@-3", "2", "take a 1", "out@-3", "show a", "in@5", "list zzzzzzzzzzzz none", "0",
                  "names", "a zzzzzzzzzzzz")
        self.assertEqual(desk.kept("a"), [("in", 5)])
        self.assertEqual(desk.kept("zzzzzzzzzzzz"), [])

    def test_copies_and_names(self):
        desk = Desk()
        self.does(desk, "names", "none", "list b 1..2", "1", "copy b a", "a", "names", "a b", "add a 3..4", "2", "show b", "1..2",
                  "show a", "1..2 3..4", "copy a b", "b", "show b", "1..2 3..4", "take b 0", "1..2", "show a", "1..2 3..4", "copy a a", "a",
                  "forget b", "b", "names", "a", "loop a at out", "a", "show a", "loop at out", "copy a list", "list",
                  "rule list each in: pass", "1", "show a", "loop at out", "show list", "loop at out\neach in: pass", "forget list", "list",
                  "forget a", "a", "names", "none")

    def test_loops(self):
        desk = Desk()
        self.does(desk, "loop a begin end", "a", "rule a each else: stop", "1", "rule a behind else: pass", "1",
                  "rule a each begin < end, set low: keep low max low end; say yes", "2", "rule a ahead else: add -9", "1",
                  "show a", "loop begin end\nahead else: add -9\neach else: stop\neach begin < end, set low: keep low max low end; say yes\nbehind else: pass",
                  "unrule a each 1", "each else: stop", "rule a each unset low: pass", "2",
                  "unrule a each 2", "each unset low: pass", "unrule a behind 1", "behind else: pass",
                  "show a", "loop begin end\nahead else: add -9\neach begin < end, set low: keep low max low end; say yes", "loop a end", "a", "show a", "loop end")
        self.assertEqual(desk.kept("a"), Loop("end"))
        for order in STRETCH_ORDERS + EVENT_ORDERS:
            self.does(desk, f"loop b {order}", "b", "show b", f"loop {order}")

    def test_kept(self):
        desk = filled()
        self.assertEqual(desk.kept("join"), known.joining(skips=False))
        self.assertEqual(desk.kept(name="a"), [(0, 5), (6, 9)])
        desk.kept("a").append((1, 2))
        self.assertEqual(desk.kept("a"), [(0, 5), (6, 9)])
        self.assertIsInstance(desk.kept("a"), list)
        self.assertEqual(len(desk), 7)
        self.assertEqual(len(Desk()), 0)
        for name in ("a", "b", "none", "ins", "ends", "at", "join"):
            self.assertIs(name in desk, True)
        for wrong in ODD_OBJECTS + [0, 1, "c", "A", "a ", "names", ["a"], ("a",), Span(0, 1), "zzzzzzzzzzzzz", FAR]:
            if wrong not in ("at", "none"):
                self.assertIs(wrong in desk, False)
                with self.assertRaises(NoName) as caught:
                    desk.kept(wrong)
                self.assertIs(caught.exception.name, wrong)

    def test_two_desks(self):
        one, other = filled(), filled()
        one.do("forget a")
        other.do("add a 50..60")
        self.assertNotIn("a", one)
        self.assertEqual(other.do("show a"), "0..5 6..9 50..60")
        self.assertEqual(one.do("undo"), "forget a")
        self.assertEqual(other.do("undo"), "add a 50..60")
        self.assertEqual(kept(one), kept(other))

    def test_lines(self):
        desk = filled()
        made = Desk()
        lines = kept(desk)
        self.assertEqual(lines[:3], ["list a 0..5 6..9", "loop at at in", "list b 3..7 8..8"])
        self.assertEqual([line for line in lines if " join" in line], JOIN)
        for line in lines:
            made.do(line)
        self.assertEqual(kept(made), lines)
        for name in desk.do("names").split(" "):
            self.assertEqual(made.kept(name), desk.kept(name))
        self.assertEqual(kept(Desk()), [])
        one, other = desk.lines(), made.lines()
        self.assertEqual([next(one), next(other), next(one), desk.do("show a"), next(other)],
                         [lines[0], lines[0], lines[1], "0..5 6..9", lines[1]])
        for loop, _ in known.RIGHT:
            desk = Desk()
            desk.run([f"loop a {loop.order}"] + [f"rule a {line}" for line in write_loop(loop).split("\n")[1:]])
            self.assertEqual(desk.kept("a"), loop)
            made = Desk()
            made.run(kept(desk))
            self.assertEqual(made.kept("a"), loop)


class AskTest(DeskCase):

    def test_examples(self):
        desk = filled()
        self.does(desk, "union a half", "0..5 6..9", "union none shut", "none", "both a b", "3..5 6..7", "without a b", "0..3 7..9",
                  "either a b", "0..3 5..6 7..9", "gaps a -3..20", "-3..0 5..6 9..20", "gaps none first..last", "first..last", "gaps a 1..3", "none",
                  "cut a 4..7", "4..5 6..7", "cut a 5..6", "none", "covers a 6..9", "yes", "covers a 4..7", "no", "covers a 40..40", "yes",
                  "covers none first..last", "no", "most a", "1", "most none", "0", "run join a", "put 0..5 6..9, tally 0",
                  "judge join moments some one half", "wrong 1", "needs join moments some one half", "none",
                  "needs join moments some any half", "begin", "part join join half", "alike", "run ends a", "put first..first, tally 2",
                  "run ends none", "put first..first, tally 0", "run join none", "put none, tally 0")
        self.assertEqual(desk.do("draw a 0 0 3").split("\n")[1], "       0 +..          8   0")

    def test_run(self):
        desk = Desk()
        self.does(desk, "loop a any", "a", "list b 1..2 3..3", "2", "rule a each begin == end: say yes", "1", "rule a each else: put begin end; add -2", "2",
                  "run a b", "put 1..2, said yes, tally -2", "rule a behind else: say no", "1", "list c 4..5", "1", "run a c", "put 4..5, said no, tally -2",
                  "list d 1..1", "1", "run a d", "put none, said yes, tally 0", "loop e any", "e", "rule e each else: put begin end; put end begin; put low low", "1",
                  "run e b", "put 1..2 2..1, tally 0, broken each 1", "loop f any", "f", "rule f behind low < high: pass", "1", "run f b", "put none, tally 0, broken behind 1",
                  "loop g any", "g", "rule g ahead set low: pass", "1", "rule g ahead else: keep low right; put left low; add 3", "2", "rule g each low < high: pass", "1",
                  "run g b 0..9", "put 0..9, tally 3, broken each 1", "list h none", "0", "run g h first..last", "put first..last, tally 3",
                  "run a b 0..9", "put 1..2, said yes, tally -2", "loop i at", "i", "rule i each out: put at at", "1", "list j in@5 out@6", "2", "run i j", "put 6..6, tally 0",
                  "run i h", "put none, tally 0")
        self.fails(desk, "run g b", NoWindow, desk.kept("g"))
        with self.assertRaises(NoWindow) as caught:
            desk.do("run g b")
        self.assertEqual(caught.exception.user, desk.kept("g"))
        self.fails(desk, "run i b", BadItem, 0)
        self.fails(desk, "run a j", BadItem, 0)

    def test_answers_are_those_of_the_functions(self):
        desk = Desk()
        for _ in range(60):
            one, other = [SOURCE.choices(SPANS, k=SOURCE.randint(0, 5)) for _ in range(2)]
            desk.run([f"list one {write_items(one)}", f"list other {write_items(other)}"])
            a, b, (left, right) = Spread.of(one), Spread.of(other), SOURCE.choice([(0, 4), (FIRST, 3), (7, LAST), (FIRST, LAST), (-9, 40)])
            window = write_pairs([(left, right)])
            span = SOURCE.choice(SPANS)
            self.does(desk, "union one half", write_pairs(union(one)), "union one shut", write_pairs(union(one, "shut")), "both one other", str(a & b),
                      "without one other", str(a - b), "either one other", str(a ^ b), "either one one", "none", f"gaps one {window}",
                      write_pairs(list(a.gaps((left, right)))), f"cut one {window}", str(a & Span(left, right)),
                      f"covers one {write_pairs([span])}", "yes" if span in a else "no", "most one", str(Sweep()(one)), "show one", write_items(one),
                      "draw one -1 2 24", Days().drawing(one, -1, 2))

    def test_most(self):
        desk = Desk()
        self.does(desk, "list a 0..2 2..4 2..2", "3", "most a", "1", "add a 1..3", "4", "most a", "2", "add a first..last", "5", "most a", "3",
                  "list b " + "0..5 " * 999 + "0..5", "1000", "most b", "1000")

    def test_judge_needs_and_part(self):
        loops = [(loop, wish) for loop, wish in known.RIGHT if len(loop.registers) + 2 * (loop.uses_window or wish.uses_window) <= 2]
        for loop, wish in loops[::2]:
            desk = Desk()
            desk.run([f"loop a {loop.order}"] + [f"rule a {line}" for line in write_loop(loop).split("\n")[1:]] + ["copy a b", "rule b behind else: add 1"])
            for asked in (wish, wish.by("shut"), wish.by("half")):
                verdict = judge(loop, asked)
                if not verdict:
                    due = f"wrong {len(verdict.witness)}"
                else:
                    due = "right" if verdict.table is None else f"right {len(verdict.table)}"
                self.does(desk, f"judge a {write_wish(asked)}", due, f"needs a {write_wish(asked)}", ", ".join(needs(loop, asked)) or "none")
            if len(loop.registers) + loop.uses_window <= 1:
                for ends in ("half", "shut"):
                    found = parting(loop, desk.kept("b"), ends=ends)
                    self.does(desk, f"part a b {ends}", f"part {len(found.witness)}" if found else "alike", f"part b b {ends}", "alike")
        desk = filled()
        self.does(desk, "loop count any", "count", "rule count each else: add 1", "1", "judge count number all half", "right", "judge ends number all shut", "right",
                  "rule join each else: pass", "4", "judge join moments some any half", f"right {len(judge(known.joining(skips=False), Moments('some', form='any')).table)}",
                  "needs ends number all half", "any", "part ends ends shut", "alike", "loop other end", "other", "part ends other shut", "part 1")

    def test_several_needs(self):
        desk = Desk()
        self.does(desk, "loop a any", "a", "rule a each set low, low == begin, end < high: drop low; put low low", "1",
                  "rule a each else: keep low begin; keep high end; add 1", "2", "needs a number all half", "begin end, end",
                  "needs a number full half", "none")

    def test_errors_of_the_functions(self):
        desk = filled()
        desk.run(["loop wide end", "rule wide each else: keep low begin; keep high begin; keep mark begin", "loop b end back"])
        self.fails_with(desk, "judge ends moments inside one half", Unfit)
        self.fails_with(desk, "needs at number all half", Unfit)
        self.fails(desk, "judge ends answer clash half", BadOrder, "end")
        self.fails(desk, "judge wide number left half", TooWide, 4)
        self.fails(desk, "needs wide number left half", TooWide, 2)
        self.fails(desk, "part ends join half", BadOrder, "begin")
        self.fails(desk, "part wide wide shut", TooWide, 5)
        self.fails(desk, "draw a 0 60 0", BadColumns, 0)
        self.fails(desk, "draw a 0 60 7", BadColumns, 7)
        self.fails(desk, "draw a 0 60 1", TooMany, 60)
        self.fails(desk, f"draw a {FAR} {FAR} 1", TooFar, 1440 * FAR)
        self.does(desk, "draw a 1 0 1", "     day -       held  pc\n   total =          0 end")

    def fails_with(self, desk, command, made):
        with self.assertRaises(made) as caught:
            desk.do(command)
        self.assertEqual(f"judge x {write_wish(caught.exception.wish)}".split(" ", 2)[2], command.split(" ", 2)[2])


class CheckTest(DeskCase):

    def test_no_commands(self):
        desk = filled()
        good = [
            "list a 0..5", "list a none", "add a 0..5", "take a 0", "copy a c", "forget a", "loop a any", "loop a begin", "loop a begin end", "rule join each else: pass",
            "unrule join each 1", "names", "show a", "union a half", "both a b", "without a b", "either a b", "gaps a 0..5", "cut a 0..5",
            "covers a 0..5", "most a", "draw a 0 0 1", "run join a", "run join a 0..5", "judge join moments some one half",
            "judge ends moments some one half", "judge ends moments some one half within", "judge join answer clash shut", "needs join number all half", "part join join half", "undo",
        ]
        for command in good:
            made = filled()
            self.assertIsInstance(made.do(command), str)
            words = command.split(" ")
            for wrong in {command + " ", " " + command, command.replace(" ", "  ", 1) if " " in command else command + "  ", command + "\n",
                          command + " x1", " ".join(words[:-1]), command.upper(), words[0].capitalize() + command[len(words[0]):],
                          command.replace(" ", "\n", 1) if " " in command else "\n" + command, command + " half half"} - set(good):
                self.fails(desk, wrong, BadCommand, wrong)

    def test_forms_that_are_no_commands(self):
        desk = filled()
        for command in [
            "", " ", "\n", "list", "list a", "list a ", "list A 0..5", "list a1 0..5", "list abcdefghijklm 0..5", "list a 5..0", "list a 0..5 none",
            "list a in@5 0..5", "list a 0..5,6..7", "list 0..5 a", "list a [(0, 5)]", "add a", "add a 5..3", "add a in@5", "add a none", "add a 0..5 6..7",
            "add a 05..6", "add a +5..6", "take a", "take a +0", "take a 00", "take a 05", "take a -0", "take a 1.0", "take a x", "take a first", "take a 0 1",
            "take a " + "9" * 32, "take a -" + "1" + "0" * 31, "copy a", "copy a a a", "copy a A", "copy a b1", "copy a abcdefghijklm", "forget", "forget a b",
            "loop a", "loop a begin  end", "loop a end begin end", "loop a back", "loop a begin-end", "loop a any any", "loop any a", "rule join", "rule join each",
            "rule join each ", "rule join each else", "rule join each else:", "rule join else: pass", "rule join beside else: pass", "rule each join else: pass",
            "rule join each else: pass pass", "rule join each each else: pass", "rule join each else: add 10", "rule join each begin > end: pass",
            "unrule join each", "unrule join each one", "unrule join each 01", "unrule join 1", "unrule join each 1 1", "unrule join all 1", "undo undo", "undo 1",
            "names a", "show", "show a b", "union a", "union a both", "union half a", "both a", "both a b a", "without a", "either", "gaps a", "gaps a 5..5",
            "gaps a 6..5", "gaps a 0..5 6..7", "cut a 0..0", "cut a first", "covers a", "covers a 6..5", "covers a 0..5 7..8", "most", "most a a", "draw a 0 0",
            "draw a 0 0 24 24", "draw a 0 0 x", "draw a 0 +1 24", "draw a " + "1" * 32 + " 0 24", "draw 0 0 24 a", "run join", "run join a 5..5", "run join a 0..5 0..6",
            "run join a none", "run join a x", "judge join", "judge join moments some half", "judge join moments some one half without", "judge join answer clash",
            "judge join number", "judge moments some one half", "needs join", "needs join number all half half", "part join", "part join join", "part join join any",
            "part join join half half", "go a", "list\ta 0..5", "lists a 0..5", "ADD a 0..5", "and", "part join half join",
        ]:
            self.fails(desk, command, BadCommand, command)
        for wrong in [odd for odd in ODD_OBJECTS if odd not in ("",)] + [0, 1, ["names"], ("names",), Span(0, 1)]:
            self.fails(desk, wrong, BadCommand, wrong)
        long = "list a " + "0..5 " * 20000
        self.fails(desk, long, BadCommand, long)

    def test_numbers_of_31_and_of_32_digits(self):
        desk = filled()
        for digits in ("9" * 31, "-" + "9" * 31, "-1"):
            self.fails(desk, f"take a {digits}", NoSpan, int(digits))
            self.fails(desk, f"unrule join each {digits}", NoRow, int(digits))
            self.fails(desk, f"draw a 0 0 {digits}", BadColumns, int(digits))
        self.fails(desk, "draw a 0 {} 1".format("9" * 31), TooMany, 60)
        for digits in ("9" * 32, "-" + "9" * 32, "1" + "0" * 31):
            for command in (f"take a {digits}", f"unrule join each {digits}", f"draw a 0 0 {digits}", f"draw a {digits} 0 1"):
                self.fails(desk, command, BadCommand, command)

    def test_no_name(self):
        desk = filled()
        for command, name in [
            # Nothing is kept there.
            ("add x 0..5", "x"), ("take x 0", "x"), ("copy x a", "x"), ("forget x", "x"), ("rule x each else: pass", "x"), ("unrule x each 1", "x"), ("show x", "x"),
            ("union x half", "x"), ("both x y", "x"), ("both a y", "y"), ("without y x", "y"), ("either a x", "x"), ("gaps x 0..5", "x"), ("cut x 0..5", "x"),
            ("covers x 0..5", "x"), ("most x", "x"), ("draw x 0 0 1", "x"), ("run x a", "x"), ("run join x", "x"), ("run y x", "y"), ("run y x 0..5", "y"),
            ("judge x moments some one half", "x"), ("needs x number all half", "x"), ("part x y half", "x"), ("part join y half", "y"),
            # Something else is kept there.
            ("add join 0..5", "join"), ("take join 0", "join"), ("rule a each else: pass", "a"), ("unrule a each 1", "a"), ("union join half", "join"),
            ("both join x", "join"), ("both a join", "join"), ("gaps join 0..5", "join"), ("cut ends 0..5", "ends"), ("covers ends 0..5", "ends"), ("most ends", "ends"),
            ("draw ends 0 0 1", "ends"), ("run a join", "a"), ("run join join", "join"), ("run a x", "a"), ("judge a number all half", "a"), ("needs a number all half", "a"),
            ("part a join half", "a"), ("part join a half", "a"),
            # A list with events is kept there.
            ("add ins 0..5", "ins"), ("union ins half", "ins"), ("both a ins", "ins"), ("without ins x", "ins"), ("either ins a", "ins"), ("gaps ins 0..5", "ins"),
            ("cut ins 0..5", "ins"), ("covers ins 0..5", "ins"), ("most ins", "ins"), ("draw ins 0 0 1", "ins"),
        ]:
            self.fails(desk, command, NoName, name)
        # The name comes ahead of the other errors.
        self.fails(desk, "take x 9", NoName, "x")
        self.fails(desk, "rule x ahead else: stop", NoName, "x")
        self.fails(desk, "draw x 0 99 7", NoName, "x")
        # The empty list has no events, and other commands take any list.
        self.does(desk, "add none 1..2", "1", "take ins 0", "in@3", "take ins 0", "out@5", "add ins 1..2", "1", "names", "a at b ends ins join none")

    def test_take_and_unrule(self):
        desk = filled()
        for index in (-1, 2, 3, 10 ** 30, -10 ** 30):
            self.fails(desk, f"take a {index}", NoSpan, index)
        self.fails(desk, "take none 0", NoSpan, 0)
        for number in (0, -1, 4, 10 ** 30):
            self.fails(desk, f"unrule join each {number}", NoRow, number)
        self.fails(desk, "unrule join ahead 1", NoRow, 1)
        self.does(desk, "unrule join each 3", "each else: put low high; keep low begin; keep high end", "unrule join each 1", "each set high, begin <= high: keep high max high end",
                  "show join", "loop begin\neach unset high: keep low begin; keep high end\nbehind set high: put low high", "take a 1", "6..9", "show a", "0..5")

    def test_rules(self):
        desk = filled()
        for command, place in [
            ("rule join ahead else: stop", ("ahead", 1)), ("rule join behind begin < end: pass", ("behind", 2)), ("rule join each in: pass", ("each", 4)),
            ("rule join each else: put at at", ("each", 4)), ("rule at each else: put begin end", ("each", 1)), ("rule at ahead in: pass", ("ahead", 1)),
            ("rule ends behind else: stop", ("behind", 2)),
        ]:
            self.fails(desk, command, BadUse, place)
        for number in range(1, 7):
            self.does(desk, "rule at each in: pass", str(number))
        for command in ("rule at each in: pass", "rule at each else: put begin end"):
            self.fails(desk, command, TooMany, 6)
        self.does(desk, "rule at behind else: pass", "1", "unrule at each 6", "each in: pass", "rule at each out: stop", "6")

    def test_a_thousand_items(self):
        desk = Desk()
        self.does(desk, "list a " + " ".join(["0..5"] * 999), "999", "add a 1..2", "1000")
        self.fails(desk, "add a 1..2", TooMany, 1000)
        self.does(desk, "take a 999", "1..2", "add a 3..4", "1000")
        self.fails(desk, "add a 1..2", TooMany, 1000)

    def test_fifty_names(self):
        desk = Desk()
        names = [one + other for one in "abcde" for other in "abcdefghij"]
        desk.run([f"list {name} 0..1" for name in names])
        self.assertEqual(len(desk), 50)
        for command in ("list x 0..1", "loop x any", "copy aa x"):
            self.fails(desk, command, TooMany, 50)
        self.fails(desk, "copy y x", NoName, "y")
        self.fails(desk, "list x 1..0", BadCommand, "list x 1..0")
        self.does(desk, "list aa none", "0", "loop ab any", "ab", "copy aa ac", "ac", "forget ad", "ad", "loop x any", "x")
        self.fails(desk, "copy aa y", TooMany, 50)
        self.does(desk, "undo", "loop x any", "copy aa y", "y")
        self.assertEqual(len(desk), 50)
        with self.assertRaises(TooMany):
            desk.do("list ad 0..1")


class UndoTest(DeskCase):

    def test_back_to_the_new_desk(self):
        desk, done, states = Desk(), [], []
        commands = JOIN + [
            "list a 0..5 6..9", "list a in@5", "copy join a", "copy a b", "copy a a", "unrule b each 2", "rule b each else: stop", "forget a", "loop join any", "list b none",
            "add b 0..1", "add b 0..1", "take b 0", "forget b", "loop b at", "forget b", "list c none", "list c none",
        ]
        for command in commands:
            states.append(kept(desk))
            desk.do(command)
            done.append(command)
            for asked in ("names", "show join", "judge join number all half" if "join" in desk else "names"):
                desk.do(asked)
        while done:
            self.assertEqual(desk.do("undo"), done.pop())
            self.assertEqual(kept(desk), states.pop())
        self.assertEqual(len(desk), 0)
        self.fails(desk, "undo", BadCommand, "undo")
        self.does(desk, "list a 1..2", "1", "undo", "list a 1..2")
        self.fails(desk, "undo", BadCommand, "undo")

    def test_what_was_taken_back_is_not_taken_back_again(self):
        desk = Desk()
        self.does(desk, "list a 1..2", "1", "add a 3..4", "2", "undo", "add a 3..4", "add a 5..6", "2", "undo", "add a 5..6", "undo", "list a 1..2", "names", "none")
        self.fails(desk, "undo", BadCommand, "undo")

    def test_commands_that_raise_are_not_taken_back(self):
        desk = filled()
        desk.do("add a 20..30")
        for command in ("take a 9", "add x 1..2", "rule join ahead else: stop", "nothing", "judge at number all half"):
            with self.assertRaises((NoSpan, NoName, BadUse, BadCommand, Unfit)):
                desk.do(command)
        self.does(desk, "undo", "add a 20..30", "show a", "0..5 6..9")

    def test_a_copy_does_not_change_with_its_original(self):
        desk = filled()
        self.does(desk, "copy a x", "x", "copy join y", "y", "add a 50..60", "3", "unrule join behind 1", "behind set high: put low high", "show x", "0..5 6..9",
                  "undo", "unrule join behind 1", "take x 0", "0..5", "show a", "0..5 6..9 50..60", "unrule y each 1", "each set high, begin <= high: keep high max high end",
                  "rule join behind else: pass", "2", "undo", "rule join behind else: pass", "undo", "unrule y each 1", "undo", "take x 0", "show x", "0..5 6..9")


class RunTest(DeskCase):

    def test_all(self):
        desk = Desk()
        self.assertEqual(desk.run([]), [])
        self.assertEqual(desk.run(["list a 1..2", "add a 3..4", "show a", "undo", "names"]), ["1", "2", "1..2 3..4", "add a 3..4", "a"])
        self.assertEqual(desk.run(commands=("show a", "forget a")), ["1..2", "a"])
        self.does(desk, "undo", "forget a", "undo", "list a 1..2")
        self.fails(desk, "undo", BadCommand, "undo")

    def test_or_none(self):
        desk = Desk()
        self.does(desk, "list a 1..2", "1", "add a 3..4", "2")
        for commands, made in [
            (["add a 5..6", "take a 0", "nothing", "forget a"], BadCommand), (["undo", "undo", "undo"], BadCommand), (["undo", "list b none", "take b 0"], NoSpan),
            (["forget a", "show a"], NoName), (["list b 1..2", 5], BadCommand), (["loop b any", "rule b ahead else: stop"], BadUse), (["undo", None], BadCommand),
        ]:
            with self.assertRaises(made):
                desk.run(commands)
            self.assertEqual(kept(desk), ["list a 1..2 3..4"])
        self.does(desk, "undo", "add a 3..4", "undo", "list a 1..2")
        self.fails(desk, "undo", BadCommand, "undo")

    def test_twice_the_same(self):
        commands = JOIN + ["list a 3..3 1..2", "run join a", "judge join moments some one half", "needs join moments some any half"]
        first = Desk().run(list(commands))
        Desk().run(JOIN + ["judge join moments each any half"])
        self.assertEqual(Desk().run(commands), first)
        self.assertEqual(commands[:5], JOIN)


if __name__ == "__main__":
    unittest.main()
