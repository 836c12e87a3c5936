"""Time cut into days: pieces of stretches, and days drawn in columns."""

from spanloops.errors import BadColumns, BadDay, BadItem, Endless, TooFar, TooMany
from spanloops.spans import FAR, FIRST, LAST, check_moment, check_stretches, is_number, union


def check_day(value, least, most):
    """Raises BadDay of any object that is not an integer between these two."""
    if not is_number(value) or not least <= value <= most:
        raise BadDay(value)


def check_far(edge):
    """Raises TooFar of an integer that is no edge within bounds."""
    if not -FAR <= edge <= FAR:
        raise TooFar(edge)


def check_endless(spans):
    """Raises Endless of the first stretch that is open-ended."""
    for begin, end in spans:
        if begin == FIRST or end == LAST:
            raise Endless((begin, end))


def is_piece(value, length):
    """Whether any object is a piece of a day, or an empty one."""
    if not isinstance(value, tuple) or len(value) != 3:
        return False
    return all([is_number(part) for part in value]) and 0 <= value[1] <= value[2] <= length


def check_columns(columns, length):
    """Raises BadColumns of any object that is not a number of columns for days of this length."""
    if not is_number(columns) or not 1 <= columns <= 120 or length % columns != 0:
        raise BadColumns(columns)


def clipped(rows, bounds):
    """The parts of the stretches, which are in one form, that lie within the bounds."""
    begin, end = bounds
    return [(max(low, begin), min(high, end)) for low, high in rows if low < end and high > begin]


def count_in(rows, bounds):
    """How many moments within the bounds the stretches, which are in one form, hold."""
    return sum([high - low for low, high in clipped(rows, bounds)])


def column_of(rows, bounds):
    """The character of a column with these bounds."""
    many = count_in(rows, bounds)
    if many == 0:
        return "."
    return "#" if many == bounds[1] - bounds[0] else "+"


def line_of(name, drawn, told, percent):
    """A line of a drawing."""
    return f"{name:>8} {drawn} {told:>10} {percent:>3}"


class Days:
    """Days of one length."""

    MOST = 400

    def __init__(self, length=1440, *, offset=0):
        check_day(length, 1, 10 ** 6)
        check_day(offset, 0, length - 1)
        self.length = length
        self.offset = offset

    def number(self, moment):
        """The number of the day that holds the moment."""
        check_moment(moment)
        return (moment - self.offset) // self.length

    def position(self, moment):
        """How many moments of its day are less."""
        check_moment(moment)
        return (moment - self.offset) % self.length

    def bounds(self, number):
        """The stretch that holds the moments of the day."""
        begin = self.offset + number * self.length
        check_far(begin)
        check_far(begin + self.length)
        return (begin, begin + self.length)

    def pieces(self, spans):
        """Yields the pieces of the stretches."""
        check_stretches(spans)
        check_endless(spans)
        check_many(self, spans)
        for span in spans:
            for piece in pieces_of(self, span):
                yield piece

    def joined(self, pieces):
        """The union of the stretches that the pieces are."""
        spans = []
        for index, piece in enumerate(pieces):
            if not is_piece(piece, self.length):
                raise BadItem(index)
            number, begin, end = piece
            start = self.offset + number * self.length
            check_far(start + begin)
            check_far(start + end)
            spans.append((start + begin, start + end))
        return union(spans)

    def totals(self, spans):
        """How many moments of each day some stretch holds, for the days with any: (number, count)."""
        check_stretches(spans)
        check_endless(spans)
        rows = union(spans)
        check_many(self, rows)
        counts = {}
        for row in rows:
            for number, begin, end in pieces_of(self, row):
                counts[number] = counts.get(number, 0) + end - begin
        return sorted(list(counts.items()))

    def drawn(self, spans, number, columns=24):
        """The characters of the columns of a day."""
        check_stretches(spans)
        check_columns(columns, self.length)
        return drawn_day(self.bounds(number), union(spans), columns)

    def drawing(self, spans, first, last, columns=24):
        """The drawing of the days from one number to another."""
        check_stretches(spans)
        check_columns(columns, self.length)
        if last - first >= 60:
            raise TooMany(60)
        rows = union(spans)
        lines = [line_of("day", "-" * columns, "held", "pc")]
        total = 0
        for number in range(first, last + 1):
            bounds = self.bounds(number)
            held = clipped(rows, bounds)
            many = count_in(held, bounds)
            total += many
            lines.append(line_of(number, drawn_day(bounds, held, columns), f"{many:,}", 100 * many // self.length))
        lines.append(line_of("total", "=" * columns, f"{total:,}", "end"))
        return "\n".join(lines)

    def __eq__(self, other):
        return isinstance(other, Days) and self.length == other.length and self.offset == other.offset


def count_pieces(days, span):
    """How many pieces a stretch has that is not open-ended."""
    begin, end = span
    if begin == end:
        return 0
    return days.number(end - 1) - days.number(begin) + 1


def check_many(days, spans):
    """Raises TooMany if the stretches have too many pieces."""
    if sum([count_pieces(days, span) for span in spans]) > days.MOST:
        raise TooMany(days.MOST)


def pieces_of(days, span):
    """The pieces of a stretch that is not open-ended, a list."""
    begin, end = span
    found = []
    number = days.number(begin)
    while begin < end:
        start = days.offset + number * days.length
        found.append((number, begin - start, min(end - start, days.length)))
        begin = start + days.length
        number += 1
    return found


def drawn_day(bounds, rows, columns):
    """The characters of the columns of a day, for stretches in one form."""
    begin, end = bounds
    width = (end - begin) // columns
    starts = [begin + width * column for column in range(columns)]
    return "".join([column_of(rows, (start, start + width)) for start in starts])
