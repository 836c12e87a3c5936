"""Values that several tests share."""

from spanloops.spans import FIRST, LAST

FAR = 10 ** 30
NESTED = [[[[[["deep"]]]]]]

# Of every kind that a caller may pass where any object may be passed, none of them an integer.
ODD_OBJECTS = [True, False, None, "", "half", "0", "first", [], (), [1, 2], [(0, 1)], ("x",), NESTED]

NO_EDGES = ODD_OBJECTS + [
    (0, 1), FAR + 1, -FAR - 1, LAST - 1, FIRST + 1, 5 * FAR, LAST + 1, FIRST - 1, 10 ** 39, -10 ** 39,
]

NO_MOMENTS = ODD_OBJECTS + [(0, 1), FIRST, LAST, FIRST - 1, LAST + 1, 10 ** 39, -10 ** 39]

NO_ENDS = [True, False, None, 0, 1, "", "HALF", "Half", "half ", "shut\n", "both", ["half"], ("shut",), [], NESTED]

NO_STRETCHES = ODD_OBJECTS + [
    0, 7, (1,), (1, 2, 3), [0, 5], (5, 3), (LAST, LAST), (FIRST, FIRST), (LAST, FIRST), (LAST, 0), (0, FIRST),
    (0, FAR + 1), (-FAR - 1, 0), (0, LAST - 1), (FIRST + 1, 0), (FIRST - 1, 0), (0, LAST + 1),
    (True, 5), (0, True), (False, 5), (False, True), (None, 5), (0, None), ("0", "5"), ((0, 1), 5), (0, [5]),
]

NO_WINDOWS = [odd for odd in NO_STRETCHES if odd is not None] + [(3, 3), (FAR, FAR)]

STRETCHES = [
    (0, 0), (0, 1), (3, 7), (-5, -2), (FIRST, LAST), (FIRST, 0), (0, LAST), (FIRST, -FAR), (FAR, LAST),
    (-FAR, FAR), (FAR, FAR), (-FAR, -FAR),
]

# Every edge of the spreads in the tests, what lies beside it, and the moments at both ends of time.
PROBES = list(range(-8, 16)) + [FIRST + 1, -FAR - 1, -FAR, -FAR + 1, FAR - 1, FAR, FAR + 1, LAST - 1]
