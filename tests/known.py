"""Loops that are right for a wish, for the tests."""

from spanloops.loops import Loop, Rule
from spanloops.wishes import Answer, Moments, Number

SKIP = Rule(("==", "begin", "end"))


def joining(order="begin", skips=True):
    """Joins stretches; without `skips` it puts out empty ones."""
    glue = Rule(("set", "high"), ("<=", "begin", "high"), do=[("keep", "high", ("max", "high", "end"))])
    first = Rule(("unset", "high"), do=[("keep", "low", "begin"), ("keep", "high", "end")])
    fresh = Rule(do=[("put", "low", "high"), ("keep", "low", "begin"), ("keep", "high", "end")])
    flush = Rule(("set", "high"), do=[("put", "low", "high")])
    return Loop(order, each=([SKIP] if skips else []) + [glue, first, fresh], behind=[flush])


def gaps_in_window(order="begin"):
    """Puts out the gaps in the window; stops behind it."""
    return Loop(order, ahead=[Rule(do=[("keep", "high", "left")])], each=[
        Rule(("<=", "right", "begin"), do=[("stop",)]),
        Rule(("<=", "end", "high")),
        SKIP,
        Rule(("<", "high", "begin"), do=[("put", "high", "begin"), ("keep", "high", "end")]),
        Rule(do=[("keep", "high", "end")]),
    ], behind=[Rule(("<", "high", "right"), do=[("put", "high", "right")])])


def gaps_said(order="begin"):
    """As gaps_in_window, but says something where that one stops."""
    return Loop(order, ahead=[Rule(do=[("keep", "high", "left")])], each=[
        Rule(("<=", "right", "begin"), ("<", "high", "right"), do=[("put", "high", "right"), ("say", False)]),
        Rule(("<=", "right", "begin"), do=[("say", True)]),
        Rule(("<=", "end", "high")),
        SKIP,
        Rule(("<", "high", "begin"), do=[("put", "high", "begin"), ("keep", "high", "end")]),
        Rule(do=[("keep", "high", "end")]),
    ], behind=[Rule(("<", "high", "right"), do=[("put", "high", "right")])])


def union_in_window(order="begin"):
    """Puts out what is held within the window, in parts that may touch."""
    return Loop(order, ahead=[Rule(do=[("keep", "high", "left")])], each=[
        Rule(("<=", "right", "begin"), do=[("stop",)]),
        Rule(("<=", "right", "high"), do=[("stop",)]),
        Rule(("<=", "end", "high")),
        SKIP,
        Rule(do=[("put", ("max", "begin", "high"), ("min", "end", "right")), ("keep", "high", "end")]),
    ])


def gaps_everywhere(order="begin"):
    """Puts out the gaps from FIRST to LAST."""
    return Loop(order, each=[
        SKIP,
        Rule(("unset", "high"), ("<", "first", "begin"), do=[("put", "first", "begin"), ("keep", "high", "end")]),
        Rule(("unset", "high"), do=[("keep", "high", "end")]),
        Rule(("<", "high", "begin"), do=[("put", "high", "begin"), ("keep", "high", "end")]),
        Rule(do=[("keep", "high", ("max", "high", "end"))]),
    ], behind=[
        Rule(("unset", "high"), do=[("put", "first", "last")]),
        Rule(("<", "high", "last"), do=[("put", "high", "last")]),
    ])


def held_by_all(order="any"):
    """Puts out what all stretches have in common."""
    return Loop(order, each=[
        Rule(("unset", "low"), do=[("keep", "low", "begin"), ("keep", "high", "end")]),
        Rule(do=[("keep", "low", ("max", "low", "begin")), ("keep", "high", ("min", "high", "end"))]),
    ], behind=[
        Rule(("unset", "low"), do=[("put", "first", "last")]),
        Rule(("<", "low", "high"), do=[("put", "low", "high")]),
    ])


def held_by_two():
    """Puts out what two stretches hold; empty pairs too."""
    return Loop("begin", ahead=[Rule(do=[("keep", "low", "first"), ("keep", "high", "first")])], each=[
        SKIP,
        Rule(("unset", "mark"), do=[("keep", "mark", "end")]),
        Rule(("<=", "mark", "begin"), do=[("keep", "mark", "end")]),
        Rule(("<=", "begin", "high"), ("<=", "end", "mark"), do=[("keep", "high", ("max", "high", "end"))]),
        Rule(("<=", "begin", "high"), do=[("keep", "high", "mark"), ("keep", "mark", "end")]),
        Rule(do=[("put", "low", "high"), ("keep", "low", "begin"), ("keep", "high", ("min", "end", "mark")),
                 ("keep", "mark", ("max", "mark", "end"))]),
    ], behind=[Rule(do=[("put", "low", "high")])])


def held_by_one():
    """Puts out what one stretch alone holds; empty pairs too."""
    return Loop("begin", each=[
        SKIP,
        Rule(("unset", "high"), do=[("keep", "mark", "begin"), ("keep", "high", "end")]),
        Rule(("<=", "high", "begin"),
             do=[("put", "mark", "high"), ("keep", "mark", "begin"), ("keep", "high", "end")]),
        Rule(("<", "mark", "begin"), do=[("put", "mark", "begin"), ("keep", "mark", ("min", "end", "high")),
                                         ("keep", "high", ("max", "end", "high"))]),
        Rule(("<=", "end", "high"), do=[("keep", "mark", ("max", "mark", "end"))]),
        Rule(do=[("keep", "mark", "high"), ("keep", "high", "end")]),
    ], behind=[Rule(("set", "high"), do=[("put", "mark", "high")])])


def each_as_it_is(order="any", skips=True):
    return Loop(order, each=([SKIP] if skips else []) + [Rule(do=[("put", "begin", "end")])])


def each_in_window(order="any"):
    return Loop(order, each=[
        SKIP,
        Rule(("<", "begin", "right"), ("<", "left", "end"),
             do=[("put", ("max", "begin", "left"), ("min", "end", "right"))]),
    ])


def each_in_window_of_all():
    """As each_in_window, but the names of the open ends occur."""
    return Loop("any", ahead=[Rule(("==", "left", "first"), ("==", "right", "last"))], each=each_in_window().each)


def each_cut(order="any"):
    """Cuts each stretch at the left of the window."""
    return Loop(order, each=[
        SKIP,
        Rule(("<", "begin", "left"), ("<", "left", "end"), do=[("put", "begin", "left"), ("put", "left", "end")]),
        Rule(do=[("put", "begin", "end")]),
    ])


def switches(order="at"):
    """Puts out from an "in" to the next "out"."""
    return Loop(order, each=[
        Rule(("in",), ("unset", "low"), do=[("keep", "low", "at")]),
        Rule(("out",), ("set", "low"), do=[("put", "low", "at"), ("drop", "low")]),
    ], behind=[Rule(("set", "low"), do=[("put", "low", "last")])])


def switches_in_window(order="at"):
    return Loop(order, each=[
        Rule(("in",), ("unset", "low"), do=[("keep", "low", ("max", "at", "left"))]),
        Rule(("out",), ("set", "low"), do=[("put", "low", ("min", "at", "right")), ("drop", "low")]),
    ], behind=[Rule(("set", "low"), do=[("put", "low", "right")])])


def switches_in_one_form(order="at"):
    """Joins what touches, and leaves out what is empty."""
    return Loop(order, each=[
        Rule(("in",), ("unset", "low"), do=[("keep", "low", "at"), ("drop", "high")]),
        Rule(("in",), ("set", "high"), ("!=", "high", "at"),
             do=[("put", "low", "high"), ("keep", "low", "at"), ("drop", "high")]),
        Rule(("in",), do=[("drop", "high")]),
        Rule(("set", "low"), ("unset", "high"), ("==", "low", "at"), do=[("drop", "low")]),
        Rule(("set", "low"), ("unset", "high"), do=[("keep", "high", "at")]),
    ], behind=[
        Rule(("set", "high"), do=[("put", "low", "high")]),
        Rule(("set", "low"), do=[("put", "low", "last")]),
    ])


def answering(*tests, order="any", ahead=(), more=()):
    """Says True at the first stretch that passes the tests, and False behind all."""
    return Loop(order, ahead=ahead, each=[Rule(*tests, do=[("say", True)]), *more],
                behind=[Rule(do=[("say", False)])])


def busy_half():
    return Loop("any", each=[SKIP, Rule(("<", "begin", "right"), ("<", "left", "end"), do=[("say", True)])],
                behind=[Rule(do=[("say", False)])])


def busy_shut():
    return answering(("<=", "begin", "right"), ("<=", "left", "end"))


def clashing(sign="<"):
    each = [
        Rule(("unset", "high"), do=[("keep", "high", "end")]),
        Rule((sign, "begin", "high"), do=[("say", True)]),
        Rule(do=[("keep", "high", "end")]),
    ]
    return Loop("begin", each=([SKIP] if sign == "<" else []) + each, behind=[Rule(do=[("say", False)])])


def covering(order="begin"):
    return Loop(order, ahead=[Rule(do=[("keep", "high", "left")])], each=[
        Rule(("<=", "begin", "high"), ("<=", "right", "end"), do=[("say", True)]),
        Rule(("<=", "begin", "high"), do=[("keep", "high", ("max", "high", "end"))]),
        SKIP,
        Rule(do=[("say", False)]),
    ], behind=[Rule(do=[("say", False)])])


def counting(*tests, order="any", ahead=(), skips=False):
    return Loop(order, ahead=ahead, each=([SKIP] if skips else []) + [Rule(*tests, do=[("add", 1)])])


def counting_pieces(skips=True):
    return Loop("begin", each=([SKIP] if skips else []) + [
        Rule(("unset", "mark"), do=[("add", 1), ("keep", "mark", "end")]),
        Rule(("<", "mark", "begin"), do=[("add", 1), ("keep", "mark", "end")]),
        Rule(do=[("keep", "mark", ("max", "mark", "end"))]),
    ])


RIGHT = [
    (joining(), Moments("some")),
    (joining("begin end"), Moments("some", form="full")),
    (joining("begin back"), Moments("some", form="any")),
    (joining(skips=False), Moments("some", ends="shut")),
    (gaps_in_window(), Moments("none", within=True)),
    (gaps_in_window(), Moments("none", within=True, form="cut")),
    (gaps_said(), Moments("none", within=True)),
    (union_in_window(), Moments("some", within=True, form="cut")),
    (gaps_everywhere(), Moments("none")),
    (gaps_everywhere("begin end"), Moments("none")),
    (held_by_all(), Moments("all")),
    (held_by_all("end back"), Moments("all", form="full")),
    (held_by_two(), Moments("two", form="any")),
    (held_by_one(), Moments("one", form="any")),
    (each_as_it_is(), Moments("each", form="full")),
    (each_as_it_is("end", skips=False), Moments("each", form="any")),
    (each_as_it_is("begin", skips=False), Moments("each", form="full", ends="shut")),
    (each_in_window(), Moments("each", within=True, form="full")),
    (each_in_window("begin end"), Moments("each", within=True, form="cut")),
    (each_in_window_of_all(), Moments("each", within=True, form="any")),
    (each_cut(), Moments("each", form="cut")),
    (each_cut("end begin"), Moments("each", form="cut")),
    (switches(), Moments("inside", form="any")),
    (switches("at in"), Moments("inside", form="any")),
    (switches("at out"), Moments("inside", form="full")),
    (switches_in_window(), Moments("inside", within=True, form="any")),
    (switches_in_one_form(), Moments("inside")),
    (switches_in_one_form("at out"), Moments("inside")),
    (busy_half(), Answer("busy")),
    (busy_shut(), Answer("busy", ends="shut")),
    (clashing(), Answer("clash")),
    (clashing("<="), Answer("clash", ends="shut")),
    (covering(), Answer("covered")),
    (counting(), Number("all")),
    (counting(skips=True), Number("full")),
    (counting(order="end back"), Number("full", ends="shut")),
    (counting(("<=", "begin", "left"), ("<", "left", "end")), Number("left")),
    (counting(("<=", "begin", "left"), ("<=", "left", "end")), Number("left", ends="shut")),
    (counting(("<=", "left", "begin"), ("<=", "end", "right"), order="begin end"), Number("within")),
    (counting(("<", "begin", "right"), ("<", "left", "end"), skips=True), Number("touched")),
    (counting(("<=", "begin", "right"), ("<=", "left", "end"), order="end"), Number("touched", ends="shut")),
    (counting_pieces(), Number("pieces")),
    (counting_pieces(skips=False), Number("pieces", ends="shut")),
]
