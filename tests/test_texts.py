"""Texts, and reading them."""

import random
import unittest

from spanloops.errors import BadItem, BadText
from spanloops.loops import Loop, Rule
from spanloops.spans import FIRST, LAST, Span
from spanloops.texts import read_items, read_loop, read_rule, read_wish, write_items, write_loop, write_pairs
from spanloops.texts import write_rule, write_wish
from spanloops.wishes import Answer, Moments, Number
from tests import known
from tests.samples import FAR, NO_STRETCHES, ODD_OBJECTS, STRETCHES
from tests.test_loops import EVENTS, NO_EVENTS, scrambled
from tests.test_rules import DEEDS, EVENT_ORDERS, LAST_DEEDS, STRETCH_ORDERS, TERMS, TESTS
from tests.test_wishes import MOMENTS, OTHERS

JOIN = """loop begin
each set high, begin <= high: keep high max high end
each unset high: keep low begin; keep high end
each else: put low high; keep low begin; keep high end
behind set high: put low high"""

NO_STRINGS = [odd for odd in ODD_OBJECTS if not isinstance(odd, str)] + [0, 1, -1, Span(0, 1), [JOIN], ("none",)]

READERS = (read_items, read_wish, read_rule, read_loop)


def disturbed(text):
    """Strings that differ from a text by a little."""
    yield from (text + " ", " " + text, text + "\n", "\n" + text, text + "x", text[1:], text[:-1], text.upper())
    for at, char in enumerate(text):
        if char == " ":
            yield text[:at] + text[at + 1:]
            yield text[:at] + "  " + text[at + 1:]
            yield text[:at] + "\n" + text[at + 1:]
    words = text.split(" ")
    for at in range(len(words)):
        yield " ".join(words[:at] + words[at + 1:])
        yield " ".join(words[:at] + words[at:at + 1] * 2 + words[at + 1:])
        yield " ".join(words[:at] + ["more"] + words[at:])
        if at:
            yield " ".join(words[:at - 1] + [words[at], words[at - 1]] + words[at + 1:])


class TextCase(unittest.TestCase):

    def assert_bad(self, read, text, line=1):
        with self.assertRaises(BadText, msg=repr(text)) as caught:
            read(text)
        self.assertEqual(caught.exception.line, line, repr(text))
        self.assertIsInstance(caught.exception.line, int)

    def assert_exact(self, read, write, text):
        """A string that is disturbed is read only if it is the text of what is read."""
        for other in disturbed(text):
            try:
                found = read(other)
            except BadText:
                continue
            self.assertEqual(write(found), other)


class ItemTest(TextCase):

    def test_edges_and_pairs(self):
        for pairs, text in [
            ([], "none"), ([(1, 3)], "1..3"), ([(FIRST, -5)], "first..-5"), ([(0, LAST)], "0..last"),
            ([(FIRST, LAST), (0, 0)], "first..last 0..0"), ([(-FAR, FAR)], f"-1{'0' * 30}..1{'0' * 30}"),
            ([(10, 10), (-1, 1)], "10..10 -1..1"),
        ]:
            self.assertEqual(write_items(pairs), text)
            self.assertEqual(write_items(items=tuple(pairs)), text)
            self.assertEqual(write_pairs(pairs=pairs), text)
            self.assertEqual(write_pairs(tuple(pairs)), text)
            self.assertEqual(read_items(text), pairs)
            self.assertEqual(read_items(text=text), pairs)
        self.assertEqual(write_pairs([(5, 3), (LAST, FIRST), (LAST, LAST), (FIRST, FIRST)]),
                         "5..3 last..first last..last first..first")

    def test_events(self):
        for events, text in [([("in", 5)], "in@5"), ([("out", -3), ("in", 0)], "out@-3 in@0"),
                             ([("in", FAR), ("out", -FAR)], f"in@1{'0' * 30} out@-1{'0' * 30}")]:
            self.assertEqual(write_items(events), text)
            self.assertEqual(read_items(text), events)

    def test_there_and_back(self):
        source = random.Random(2)
        for items in (STRETCHES, EVENTS):
            for _ in range(150):
                rows = source.choices(items, k=source.randint(0, 6))
                text = write_items(rows)
                made = read_items(text)
                self.assertEqual(made, rows)
                self.assertIsInstance(made, list)
                self.assertTrue(all(isinstance(item, tuple) for item in made))
                self.assert_exact(read_items, write_items, text)
        long = STRETCHES * 100
        self.assertEqual(read_items(write_items(long)), long)

    def test_wrong_items(self):
        for wrong in [odd for odd in NO_STRETCHES if odd not in [("in", 5)]]:
            with self.assertRaises(BadItem) as caught:
                write_items([(0, 1), (3, 3), wrong, ("in", 5), 7])
            self.assertEqual(caught.exception.index, 2)
            with self.assertRaises(BadItem) as caught:
                write_items((wrong, (0, 1), ("in", 5)))
            self.assertEqual(caught.exception.index, 0)
        for wrong in [odd for odd in NO_EVENTS if odd != (0, 1)]:
            with self.assertRaises(BadItem) as caught:
                write_items([("in", 1), wrong, (0, 1)])
            self.assertEqual(caught.exception.index, 1)
        for rows, index in [([("in", 1), (0, 1)], 1), ([(0, 1), ("out", 5)], 1), ([(0, 1), (2, 2), ("in", 3), 5], 2),
                            ([("in", 1), ("in", 1), ("out", 5), (FIRST, LAST)], 3)]:
            with self.assertRaises(BadItem) as caught:
                write_items(rows)
            self.assertEqual(caught.exception.index, index)

    def test_what_is_no_text_of_a_list(self):
        for text in [
            "", " ", "None", "none none", "none 1..2", "1..2 none", " none", "none ", "none\n", "1..2\n", "1..2 ", " 1..2",
            "1..2  3..4", "1..2\n3..4", "1..2,3..4", "1.2", "1...2", "1....2", "1..", "..2", "..", "1..2..3", "1 .. 2", "1-2",
            "+1..2", "1..+2", "01..2", "1..02", "-0..2", "-1..-0", "00..1", "--1..2", "- 1..2", "1..2.0", "1e1..20", "0x1..5",
            "1_0..20", f"0..1{'0' * 29}1{'0' * 0}x", f"0..1{'0' * 29}1", f"-1{'0' * 29}1..0", f"0..1{'0' * 31}", f"-1{'0' * 31}..0",
            "5..3", "last..last", "first..first", "last..first", "last..5", "5..first", "First..5", "FIRST..5", "first..",
            "in@", "@5", "in@+5", "in@05", "in@-0", "in@first", "in@last", "on@5", "in @5", "in@ 5", "in@5 ", "in@5@6", "In@5",
            f"in@1{'0' * 29}1", "in@5 1..2", "1..2 in@5", "in@5 none", "in", "5", "0", "first", "in@5..6", "(1, 2)", "9" * 5000 + "..1",
            "in@" + "9" * 50000, "1..2 " * 2000,
        ]:
            self.assert_bad(read_items, text)

    def test_any_object(self):
        for read in READERS:
            for wrong in NO_STRINGS:
                self.assert_bad(read, wrong)


class WishTextTest(TextCase):

    def test_examples(self):
        for wish, text in [
            (Moments("some"), "moments some one half"), (Moments("each", form="cut", ends="shut", within=True), "moments each cut shut within"),
            (Answer("busy"), "answer busy half"), (Number("pieces", ends="shut"), "number pieces shut"),
            (Moments("inside", form="any", within=True), "moments inside any half within"),
            (Moments("all", form="full", ends="shut"), "moments all full shut"), (Answer("clash", ends="shut"), "answer clash shut"),
        ]:
            self.assertEqual(write_wish(wish), text)
            self.assertEqual(write_wish(wish=wish), text)
            self.assertEqual(read_wish(text=text), wish)

    def test_there_and_back(self):
        texts = set()
        for wish in MOMENTS + OTHERS:
            text = write_wish(wish)
            made = read_wish(text)
            self.assertEqual(made, wish)
            self.assertEqual(vars(made), vars(wish))
            texts.add(text)
            self.assert_exact(read_wish, write_wish, text)
        self.assertEqual(len(texts), len(MOMENTS + OTHERS))

    def test_what_is_no_text_of_a_wish(self):
        for text in ["", "none", "moments", "moments some half", "moments some one", "moments one some half", "moments some half one",
                     "moments some one half half", "moments some one half without", "moments some one half within within",
                     "moments within some one half", "answer busy", "answer half busy", "answer busy half within", "answer all half",
                     "number busy half", "number all", "number all half half", "moments busy one half", "answer some half", "busy half",
                     "moments some none half", "moments some one both", "number pieces one half", "Answer busy half"]:
            self.assert_bad(read_wish, text)


class RuleTextTest(TextCase):

    def test_examples(self):
        for rule, text in [
            (Rule(), "else: pass"), (Rule(do=[("stop",)]), "else: stop"), (Rule(("in",), ("out",)), "in, out: pass"),
            (Rule(("set", "high"), ("<=", "begin", "high"), do=[("keep", "high", ("max", "high", "end"))]),
             "set high, begin <= high: keep high max high end"),
            (Rule(("<", "low", "begin"), ("unset", "low"), ("==", "at", "at"), ("!=", "first", "last"), do=[
                ("put", ("min", "low", "left"), ("max", "right", "mark")), ("add", -9), ("add", 0), ("say", True)]),
             "low < begin, unset low, at == at, first != last: put min low left max right mark; add -9; add 0; say yes"),
            (Rule(do=[("drop", "mark"), ("put", "low", ("min", "at", "at")), ("put", ("max", "low", "low"), "end"), ("say", False)]),
             "else: drop mark; put low min at at; put max low low end; say no"),
        ]:
            self.assertEqual(write_rule(rule), text)
            self.assertEqual(write_rule(rule=rule), text)
            self.assertEqual(read_rule(text=text), rule)

    def test_every_test_term_and_deed(self):
        for test in TESTS:
            self.assertEqual(read_rule(write_rule(Rule(test))).tests, (test,))
        deeds = list(DEEDS) + LAST_DEEDS + [("add", number) for number in range(-9, 10)]
        deeds += [("keep", "low", term) for term in TERMS] + [("put", term, "low") for term in TERMS]
        deeds += [("put", one, other) for one in TERMS[::7] for other in TERMS[::11]]
        for deed in deeds:
            made = read_rule(write_rule(Rule(do=[deed]))).deeds
            self.assertEqual(repr(made), repr((deed,)))

    def test_random_rules(self):
        source = random.Random(6)
        for events in (False, True):
            for _ in range(60):
                loop = scrambled(source, events)
                for rule in loop.ahead + loop.each + loop.behind:
                    text = write_rule(rule)
                    self.assertEqual(read_rule(text), rule)
                    self.assert_exact(read_rule, write_rule, text)

    def test_what_a_loop_does_not_allow(self):
        for text in ["in, begin < at: pass", "out: put begin at; stop", "set low: keep low end; say yes"]:
            self.assertEqual(write_rule(read_rule(text)), text)

    def test_what_is_no_text_of_a_rule(self):
        four = ", ".join(["set low"] * 4)
        deeds = "; ".join(["add 1"] * 4)
        self.assertEqual(read_rule(f"{four}: {deeds}"), Rule(*[("set", "low")] * 4, do=[("add", 1)] * 4))
        for text in [
            "", ":", ": ", "else", "else:", "else: ", ": pass", "else:pass", "else : pass", "else: pass ", " else: pass",
            "else: pass\n", "pass: else", "pass: pass", "else: else", "else, in: pass", "in, else: pass", "else: pass; pass",
            "else: pass; stop", "else: stop; pass", "else: pass: pass", "in: in: pass", "each else: pass", "ahead else: pass",
            "in,out: pass", "in , out: pass", "in,  out: pass", "in out: pass", "in; out: pass", "else: add 1, add 2", "else: add 1;add 2",
            "else: add 1;  add 2", "else: add 1 ; add 2", "else: add 1;", "else: ; add 1", ", in: pass", "in, : pass",
            "< low begin: pass", "low < : pass", "low > begin: pass", "low >= begin: pass", "low <begin: pass", "low < min low high: pass",
            "low < 5: pass", "low < begin < end: pass", "set: pass", "set begin: pass", "unset left: pass", "set low high: pass", "at: pass",
            "else: keep", "else: keep low", "else: keep low min", "else: keep low min low", "else: keep low min low high end",
            "else: keep begin low", "else: keep low 5", "else: keep low high end", "else: keep min low high low", "else: keep low max min low high",
            "else: drop", "else: drop begin", "else: drop low high", "else: put low", "else: put low high end", "else: put", "else: put low min high",
            "else: put min low high", "else: put 1 2", "else: put low, high", "else: add", "else: add +1", "else: add 01", "else: add -0",
            "else: add 10", "else: add -10", "else: add 1 2", "else: add one", "else: add low", "else: say", "else: say True", "else: say Yes",
            "else: say yes no", "else: say 1", "else: drop yes", "else: tell no", "else: stop yes", "else: yes", "else: no", "else: stop stop", "else: stop; add 1", "else: say yes; add 1", "else: say yes; stop",
            "else: stop; stop", f"{four}, in: pass", f"else: {deeds}; add 1", f"else: {deeds}; stop", "low = begin: pass", "in@5: pass",
        ]:
            self.assert_bad(read_rule, text)


class LoopTextTest(TextCase):

    def test_example(self):
        join = known.joining(skips=False)
        self.assertEqual(write_loop(join), JOIN)
        self.assertEqual(write_loop(loop=join), JOIN)
        self.assertEqual(read_loop(JOIN), join)
        self.assertEqual(read_loop(text=JOIN), join)

    def test_loops_without_rules(self):
        for order in STRETCH_ORDERS + EVENT_ORDERS:
            self.assertEqual(write_loop(Loop(order)), f"loop {order}")
            self.assertEqual(read_loop(f"loop {order}"), Loop(order))

    def test_there_and_back(self):
        source = random.Random(7)
        loops = [loop for loop, _ in known.RIGHT] + [scrambled(source, events) for events in (False, True) for _ in range(60)]
        for loop in loops:
            text = write_loop(loop)
            self.assertEqual(read_loop(text), loop)
            self.assertEqual(write_loop(read_loop(text)), text)
            self.assertEqual(text.count("\n"), len(loop.ahead + loop.each + loop.behind))

    def test_first_line(self):
        for text in ["", "\n", "loop", "loop ", "loop  any", "loop any ", " loop any", "Loop any", "loop ANY", "loop any any", "loop begin  end",
                     "loop back", "any", "loop none", "each else: pass", "\nloop any", "loop at begin", "loops any", "loopany", "loop begin,end"]:
            self.assert_bad(read_loop, text)
            self.assert_bad(read_loop, text + "\neach else: pass", 1)

    def test_the_number_of_the_first_line_that_cannot_stand_there(self):
        rule = "else: pass"
        six = "\n".join([f"each {rule}"] * 6)
        for text, line in [
            ("loop any\n", 2), (JOIN + "\n", 6), (JOIN + "\n\n", 6), ("loop any\n\neach else: pass", 2), (JOIN.replace("\neach else", "\n\neach else"), 4),
            ("loop any\n" + six + f"\neach {rule}", 8), ("loop any\n" + six + f"\neach {rule}\nahead {rule}", 8),
            ("loop any\n" + six.replace("each", "ahead") + "\n" + six + "\n" + six.replace("each", "behind") + f"\nbehind {rule}", 20),
            ("loop any\neach else: pass\nahead else: pass", 3), ("loop any\nbehind else: pass\neach else: pass\nahead x", 3),
            ("loop any\nbehind else: pass\nahead else: pass", 3), ("loop any\nahead else: pass\neach else: pass\nahead else: pass", 4),
            ("loop any\neach in: pass", 2), ("loop any\neach else: put at at", 2), ("loop at\neach else: put begin end", 2),
            ("loop at\neach in: pass\neach end < at: pass", 3), ("loop at\nahead in: pass", 2), ("loop any\nahead else: put begin end", 2),
            ("loop any\nahead else: stop", 2), ("loop any\neach else: stop\nbehind else: stop", 3), ("loop any\nbehind set low: keep low end", 2),
            ("loop any\neach set low, set low, set low, set low, set low: pass", 2),
            ("loop any\neach else: pass\neach else: add 1; add 1; add 1; add 1; add 1", 3),
            ("loop any\neach: pass", 2), ("loop any\n each else: pass", 2), ("loop any\neach  else: pass", 2), ("loop any\neach", 2),
            ("loop any\neach ", 2), ("loop any\nEach else: pass", 2), ("loop any\nelse: pass", 2), ("loop any\nbeside else: pass", 2),
            ("loop any\neach else: pass\neach else: pass \neach else", 3), ("loop any\neach else: stop; add 1", 2), ("loop any\nloop any", 2),
            ("loop  any\nx", 1), ("loop any\neach else: pass\n\n", 3), ("loop any\neach else:\npass", 2),
        ]:
            self.assert_bad(read_loop, text, line)

    def test_disturbed(self):
        for loop, _ in known.RIGHT[::4]:
            self.assert_exact(read_loop, write_loop, write_loop(loop))

    def test_long_strings(self):
        long = "x" * 100000
        for read in READERS:
            self.assert_bad(read, long)
            self.assert_bad(read, " " * 100000)
        self.assert_bad(read_loop, "loop any\neach else: pass\n" + long, 3)
        self.assert_bad(read_rule, "else: put " + "min " * 20000)
        self.assert_bad(read_rule, ", ".join(["in"] * 20000) + ": pass")

    def test_twice_the_same(self):
        first = read_items("1..2 3..4")
        first.append((5, 6))
        read_items("in@5")
        self.assertEqual(read_items("1..2 3..4"), [(1, 2), (3, 4)])
        self.assertEqual(read_loop(JOIN), read_loop(JOIN))
        kept = [(1, 2), (0, 0)]
        write_items(kept)
        write_pairs(kept)
        self.assertEqual(kept, [(1, 2), (0, 0)])


if __name__ == "__main__":
    unittest.main()
