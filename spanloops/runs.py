"""One run of a loop: what the registers have, and what was done so far.

Tests and terms compare values and pass them on, so a run works with edges, and as well with
any other integers that stand for edges.
"""

from spanloops.errors import BadWindow
from spanloops.spans import FIRST, LAST, is_window


def check_window(window):
    """Raises BadWindow of any object that is neither None nor a window."""
    if window is not None and not is_window(window):
        raise BadWindow(window)


def fresh_edges(window):
    """The values of the names before a run; None for a register that is unset."""
    left, right = (None, None) if window is None else window
    return {
        "first": FIRST, "last": LAST, "left": left, "right": right,
        "low": None, "high": None, "mark": None,
    }


def term_value(edges, term):
    """The value of a term, None if it reads a register that is unset."""
    if isinstance(term, str):
        return edges[term]
    word, one, other = term
    if edges[one] is None or edges[other] is None:
        return None
    if word == "min":
        return min(edges[one], edges[other])
    return max(edges[one], edges[other])


def compared(sign, one, other):
    """Whether two values compare as the sign tells."""
    if sign == "<":
        return one < other
    if sign == "<=":
        return one <= other
    return (one == other) == (sign == "==")


class Run:
    """A run of a loop so far."""

    def __init__(self, edges):
        self.edges = edges
        self.word = None
        self.state = "reading"
        self.place = None
        self.rule_number = 0
        self.puts = []
        self.tally = 0
        self.answer = None

    def has_ended(self):
        """Whether `behind` is not to be done any more."""
        return self.state in ("said", "broken")

    def held(self):
        """What the three registers have."""
        return (self.edges["low"], self.edges["high"], self.edges["mark"])

    def take(self, item):
        """Gives the names of the item their values."""
        if item[0] in ("in", "out"):
            self.word, self.edges["at"] = item
        else:
            self.edges["begin"], self.edges["end"] = item

    def outcome(self, test):
        """Whether the test holds, None if it breaks the run."""
        if len(test) == 1:
            return self.word == test[0]
        one = self.edges[test[1]]
        if len(test) == 2:
            return (one is None) == (test[0] == "unset")
        other = self.edges[test[2]]
        if one is None or other is None:
            return None
        return compared(test[0], one, other)

    def applies(self, rule):
        """Whether all tests of the rule hold, None if one breaks the run ahead of one that fails."""
        for test in rule.tests:
            told = self.outcome(test)
            if not told:
                return told
        return True

    def obeys(self, deed):
        """Does a deed; whether it does not break the run."""
        word = deed[0]
        if word == "keep":
            edge = term_value(self.edges, deed[2])
            if edge is None:
                return False
            self.edges[deed[1]] = edge
        elif word == "put":
            pair = (term_value(self.edges, deed[1]), term_value(self.edges, deed[2]))
            if pair[0] is None or pair[1] is None:
                return False
            self.puts.append(pair)
        elif word == "drop":
            self.edges[deed[1]] = None
        elif word == "add":
            self.tally = self.tally + deed[1]
        elif word == "say":
            self.answer = deed[1]
            self.state = "said"
        else:
            self.state = "stopped"
        return True

    def obeys_all(self, deeds):
        """Does deeds in turn, up to one that breaks the run; whether none does."""
        for deed in deeds:
            if not self.obeys(deed):
                return False
        return True

    def do_part(self, part, rules):
        """Does the first rule of a part whose tests all hold; `rule_number` tells which one, 0 for none."""
        self.rule_number = 0
        for number, rule in enumerate(rules, start=1):
            told = self.applies(rule)
            if told is None or told:
                self.rule_number = number
                if told is None or not self.obeys_all(rule.deeds):
                    self.state = "broken"
                    self.place = (part, number)
                return
