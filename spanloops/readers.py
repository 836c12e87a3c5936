"""What a text is: each reader returns what has exactly this text, or None if nothing has it.

A text is here a string.
"""

from spanloops.choices import is_name
from spanloops.errors import BadDeed, TooMany
from spanloops.loops import Rule
from spanloops.orders import EVENT_ORDERS, STRETCH_ORDERS, is_event
from spanloops.rules import is_deed, is_test
from spanloops.spans import FIRST, LAST, Ends, is_edge, is_stretch, is_window
from spanloops.wishes import ANSWERS, FORMS, NUMBERS, TIMES, Answer, Moments, Number

DIGITS = "0123456789"
PARTS = ("ahead", "each", "behind")


def word_among(text, words):
    """The text, if it is one of the words."""
    return text if text in words else None


def as_name(text):
    """A name of a desk."""
    return text if is_name(text, 12) else None


def as_part(text):
    """A part of a loop."""
    return word_among(text, PARTS)


def as_order(text):
    """An order."""
    return word_among(text, STRETCH_ORDERS + EVENT_ORDERS)


def as_ends(text):
    """A way to read ends."""
    return word_among(text, (Ends.HALF, Ends.SHUT))


def as_number(text):
    """An integer of at most 31 digits."""
    digits = text[1:] if text.startswith("-") else text
    if not 1 <= len(digits) <= 31 or not all([digit in DIGITS for digit in digits]):
        return None
    # There are other ways to write a number than its text, such as 05.
    number = int(text)
    return number if str(number) == text else None


def as_edge(text):
    """An edge."""
    if text == "first":
        return FIRST
    if text == "last":
        return LAST
    number = as_number(text)
    return number if is_edge(number) else None


def pair_in(text):
    """A pair of edges, with None for what is no edge."""
    begin, _, end = text.partition("..")
    return (as_edge(begin), as_edge(end))


def as_span(text):
    """A stretch."""
    pair = pair_in(text)
    return pair if is_stretch(pair) else None


def as_window(text):
    """A window."""
    pair = pair_in(text)
    return pair if is_window(pair) else None


def as_event(text):
    """An event."""
    word, _, at = text.partition("@")
    event = (word, as_number(at))
    return event if is_event(event) else None


def as_items(text):
    """A list of stretches or of events."""
    if text == "none":
        return []
    words = text.split(" ")
    if "@" in words[0]:
        items = [as_event(word) for word in words]
    else:
        items = [as_span(word) for word in words]
    return None if any([item is None for item in items]) else items


def as_wish(text):
    """A wish."""
    words = text.split(" ")
    kind = words[0]
    if kind == "moments" and len(words) in (4, 5):
        _, which, form, ends = words[:4]
        within = len(words) == 5
        if which in TIMES and form in FORMS and as_ends(ends) is not None and words[4:] in ([], ["within"]):
            return Moments(which, within=within, form=form, ends=ends)
    if len(words) == 3 and as_ends(words[2]) is not None:
        if kind == "answer" and words[1] in ANSWERS:
            return Answer(words[1], ends=words[2])
        if kind == "number" and words[1] in NUMBERS:
            return Number(words[1], ends=words[2])
    return None


def as_test(text):
    """A test."""
    words = text.split(" ")
    test = (words[1], words[0], words[2]) if len(words) == 3 else tuple(words)
    return test if is_test(test) else None


def terms_in(words):
    """What the words are as terms; some may be none."""
    terms = []
    at = 0
    while at < len(words):
        if words[at] in ("min", "max"):
            terms.append(tuple(words[at:at + 3]))
            at += 3
        else:
            terms.append(words[at])
            at += 1
    return tuple(terms)


def as_deed(text):
    """A deed."""
    words = text.split(" ")
    word, told = words[0], words[1:]
    if word == "keep":
        deed = ("keep",) + tuple(told[:1]) + terms_in(told[1:])
    elif word == "put":
        deed = ("put",) + terms_in(told)
    elif word == "add" and len(told) == 1:
        deed = ("add", as_number(told[0]))
    elif word == "say" and told in (["yes"], ["no"]):
        deed = ("say", told == ["yes"])
    else:
        deed = tuple(words)
    return deed if is_deed(deed) else None


def as_rule(text):
    """A rule without its part."""
    head, _, tail = text.partition(": ")
    tests = [] if head == "else" else [as_test(part) for part in head.split(", ")]
    deeds = [] if tail == "pass" else [as_deed(part) for part in tail.split("; ")]
    if any([part is None for part in tests + deeds]):
        return None
    try:
        return Rule(*tests, do=deeds)
    except (BadDeed, TooMany):
        return None


READERS = {
    "name": as_name, "part": as_part, "order": as_order, "ends": as_ends, "number": as_number, "span": as_span,
    "window": as_window, "items": as_items, "wish": as_wish, "rule": as_rule,
}


def read_as(kind, text):
    """What a text is as one of these kinds."""
    reader = READERS[kind]
    return reader(text)
