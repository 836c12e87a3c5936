"""Tests, deeds and terms: which tuples they are, and which names occur in them."""

from spanloops.spans import is_number

REGISTERS = ("low", "high", "mark")
ITEM_NAMES = ("begin", "end", "at")
NAMES = ("low", "high", "mark", "left", "right", "first", "last", "begin", "end", "at")
SIGNS = ("<", "<=", "==", "!=")


def is_term(value):
    """Whether any object is a term."""
    if isinstance(value, tuple) and len(value) == 3:
        word, one, other = value
        return word in ("min", "max") and one in NAMES and other in NAMES
    return value in NAMES


def is_test(value):
    """Whether any object is a test."""
    if not isinstance(value, tuple):
        return False
    if len(value) == 3:
        sign, one, other = value
        return sign in SIGNS and one in NAMES and other in NAMES
    if len(value) == 2:
        return value[0] in ("set", "unset") and value[1] in REGISTERS
    return value in (("in",), ("out",))


def is_deed(value):
    """Whether any object is a deed."""
    if not isinstance(value, tuple):
        return False
    if len(value) == 3:
        word, one, other = value
        if word == "keep":
            return one in REGISTERS and is_term(other)
        return word == "put" and is_term(one) and is_term(other)
    if len(value) == 2:
        word, told = value
        if word == "drop":
            return told in REGISTERS
        if word == "add":
            return is_number(told) and -9 <= told <= 9
        return word == "say" and isinstance(told, bool)
    return value == ("stop",)


def ends_rule(deed):
    """Whether nothing may be done behind this deed."""
    return deed[0] in ("say", "stop")


def names_in_term(term):
    """The names of a term."""
    if isinstance(term, tuple):
        return term[1:]
    return (term,)


def names_in_test(test):
    """The names of a test."""
    return test[1:]


def names_in_deed(deed):
    """The names of a deed."""
    word = deed[0]
    if word == "keep":
        return (deed[1],) + names_in_term(deed[2])
    if word == "put":
        return names_in_term(deed[1]) + names_in_term(deed[2])
    if word == "drop":
        return (deed[1],)
    return ()
