"""Texts of lists, wishes, rules and loops, and what has such a text."""

from spanloops.errors import BadItem, BadText
from spanloops.loops import Loop, may_stand
from spanloops.orders import is_event
from spanloops.readers import PARTS, as_order, as_rule, read_as
from spanloops.spans import is_stretch, pair_text, pairs_text
from spanloops.wishes import Answer, Moments


def item_text(item):
    """The text of a stretch or an event."""
    if is_event(item):
        return f"{item[0]}@{item[1]}"
    return pair_text(item)


def write_items(items):
    """The text of a list of stretches or of events."""
    for index, item in enumerate(items):
        fits = is_event(item) if is_event(items[0]) else is_stretch(item)
        if not fits:
            raise BadItem(index)
    return " ".join([item_text(item) for item in items]) or "none"


def write_pairs(pairs):
    """The text of a list of pairs of edges."""
    return pairs_text(pairs)


def write_wish(wish):
    """The text of a wish."""
    if isinstance(wish, Moments):
        more = ["within"] if wish.within else []
        return " ".join(["moments", wish.which, wish.form, wish.ends] + more)
    return " ".join(["answer" if isinstance(wish, Answer) else "number", wish.what, wish.ends])


def text_of_term(term):
    """The text of a term."""
    return " ".join(term) if isinstance(term, tuple) else term


def text_of_test(test):
    """The text of a test."""
    if len(test) == 3:
        sign, one, other = test
        return f"{one} {sign} {other}"
    return " ".join(test)


def text_of_deed(deed):
    """The text of a deed."""
    word = deed[0]
    if word in ("keep", "put"):
        return f"{word} {text_of_term(deed[1])} {text_of_term(deed[2])}"
    if word == "add":
        return f"add {deed[1]}"
    if word == "say":
        return "say yes" if deed[1] else "say no"
    return " ".join(deed)


def write_rule(rule):
    """The text of a rule without its part."""
    tests = ", ".join([text_of_test(test) for test in rule.tests]) or "else"
    deeds = "; ".join([text_of_deed(deed) for deed in rule.deeds]) or "pass"
    return f"{tests}: {deeds}"


def rule_line(part, rule):
    """The line of a rule in the text of a loop."""
    return f"{part} {write_rule(rule)}"


def rule_lines(loop):
    """The lines of all rules of a loop."""
    return [rule_line(part, rule) for part in PARTS for rule in loop.part(part)]


def write_loop(loop):
    """The text of a loop."""
    return "\n".join([f"loop {loop.order}"] + rule_lines(loop))


def read_line(kind, text):
    """What a text, any object, is as one of the kinds that have one line."""
    found = read_as(kind, text) if isinstance(text, str) else None
    if found is None:
        raise BadText(1)
    return found


def read_items(text):
    """The list of the items with this text."""
    return read_line("items", text)


def read_wish(text):
    """The wish with this text."""
    return read_line("wish", text)


def read_rule(text):
    """The rule with this text."""
    return read_line("rule", text)


def read_order(line):
    """The order that the first line of a loop tells."""
    word, _, order = line.partition(" ")
    if word != "loop" or as_order(order) is None:
        raise BadText(1)
    return order


def read_loop(text):
    """The loop with this text."""
    if not isinstance(text, str):
        raise BadText(1)
    rows = text.split("\n")
    order = read_order(rows[0])
    parts = {part: [] for part in PARTS}
    last = "ahead"
    for number, row in enumerate(rows[1:], start=2):
        part, _, told = row.partition(" ")
        rule = as_rule(told)
        if rule is None or part not in PARTS or PARTS.index(part) < PARTS.index(last):
            raise BadText(number)
        if len(parts[part]) == 6 or not may_stand(rule, part, order):
            raise BadText(number)
        parts[part].append(rule)
        last = part
    return Loop(order, ahead=parts["ahead"], each=parts["each"], behind=parts["behind"])
