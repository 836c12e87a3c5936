"""The errors of the package: each keeps what it was made of under one attribute."""


class BadEdge(ValueError):
    """Something that is not an edge."""

    def __init__(self, edge):
        self.edge = edge


class BadSpan(ValueError):
    """A pair of edges that is not a stretch."""

    def __init__(self, span):
        self.span = span


class BadWindow(ValueError):
    """Something that is not a window."""

    def __init__(self, window):
        self.window = window


class BadMoment(ValueError):
    """Something that is not a moment."""

    def __init__(self, moment):
        self.moment = moment


class BadEnds(ValueError):
    """Something that is not a way to read ends."""

    def __init__(self, ends):
        self.ends = ends


class BadItem(ValueError):
    """The index of a member that is not of the kind that the list is for."""

    def __init__(self, index):
        self.index = index


class BadOrder(ValueError):
    """Something that is not an order that is taken here."""

    def __init__(self, order):
        self.order = order


class BadTest(ValueError):
    """Something that is not a test."""

    def __init__(self, test):
        self.test = test


class BadDeed(ValueError):
    """Something that is not a deed, or is not one at its place."""

    def __init__(self, deed):
        self.deed = deed


class BadRule(ValueError):
    """Something that is not a rule, or not a row of a pool."""

    def __init__(self, rule):
        self.rule = rule


class BadUse(ValueError):
    """The place of a rule that may not stand there."""

    def __init__(self, place):
        self.place = place


class BadWish(ValueError):
    """A word that no wish has."""

    def __init__(self, word):
        self.word = word


class BadOption(ValueError):
    """Something that is not an option."""

    def __init__(self, option):
        self.option = option


class BadSweep(ValueError):
    """The name of an option of a sweep that has a wrong value."""

    def __init__(self, word):
        self.word = word


class BadLevel(ValueError):
    """Something that is not a level."""

    def __init__(self, level):
        self.level = level


class BadDay(ValueError):
    """A length or an offset that days cannot have."""

    def __init__(self, day):
        self.day = day


class BadColumns(ValueError):
    """A number of columns in which a day cannot be drawn."""

    def __init__(self, columns):
        self.columns = columns


class BadText(ValueError):
    """The number of the first line of a text that cannot stand there."""

    def __init__(self, line):
        self.line = line


class BadCommand(ValueError):
    """Something that is not a command that can be done."""

    def __init__(self, command):
        self.command = command


class NoOption(LookupError):
    """Something that is not an option of the pool."""

    def __init__(self, option):
        self.option = option


class NoRow(LookupError):
    """Something that is not a row of the table, or not the number of a rule."""

    def __init__(self, row):
        self.row = row


class NoSpan(LookupError):
    """An index at which there is nothing."""

    def __init__(self, index):
        self.index = index


class NoName(LookupError):
    """Something under which nothing of the wanted kind is kept."""

    def __init__(self, name):
        self.name = name


class TooMany(OverflowError):
    """More than the limit allows."""

    def __init__(self, limit):
        self.limit = limit


class TooWide(OverflowError):
    """A loop that needs more edges than the limit allows."""

    def __init__(self, limit):
        self.limit = limit


class TooFar(OverflowError):
    """A number beyond the edges that are not open ends."""

    def __init__(self, edge):
        self.edge = edge


class Endless(OverflowError):
    """An open-ended stretch where only others are taken."""

    def __init__(self, span):
        self.span = span


class NoWindow(RuntimeError):
    """A loop or a wish that uses a window, where none was passed."""

    def __init__(self, user):
        self.user = user


class Unfit(RuntimeError):
    """A wish that does not fit the loop."""

    def __init__(self, wish):
        self.wish = wish
