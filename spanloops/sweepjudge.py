"""Whether a sweep is right for a wish, decided for all lists."""

from spanloops.choices import remedies_among
from spanloops.counting import covers, counts_at, turns
from spanloops.errors import BadWish
from spanloops.orders import STRETCH_ORDERS, weakest
from spanloops.spans import Ends, check_ends, in_one_form
from spanloops.sweeps import Sweep, check_level

WISHES = ("greatest", "peak", "least", "exactly")
FLAGS = ("drops", "glues", "settles", "skips")

# If a sweep is not right, a list of these shows it, and none with fewer stretches does.
TRIED = ((0, 2), (0, 4), (2, 2), (2, 4))


class SweepVerdict:
    """Whether a sweep is right for a wish, and what shows it."""

    def __init__(self, right, witness, told, due):
        self.right = right
        self.witness = witness
        self.told = told
        self.due = due

    def __bool__(self):
        return bool(self.right)

    def __len__(self):
        return len(self.witness or ())


def check_wished(wish, level, ends):
    """Raises the error of a wish, a level or ends, any objects, that are none."""
    if wish not in WISHES:
        raise BadWish(wish)
    check_level(level)
    check_ends(ends)


def lists_tried(wish, level):
    """The lists that decide a wish; those with fewer stretches first."""
    most = level + 1 if wish in ("least", "exactly") else 2
    found = [()]
    last = [()]
    for _ in range(most):
        last = [spans + (span,) for spans in last for span in TRIED]
        found = found + last
    return found


def depths_of(spans, ends):
    """The moments at which the depth may change, ascending, each with the depth from there on."""
    moments = sorted({moment for moment, _ in turns(spans, ends)})
    return list(zip(moments, counts_at(spans, moments, ends)))


def due_peak(spans, ends):
    """The wished peak of a list without open ends, or None."""
    depths = depths_of(spans, ends)
    greatest = max([0] + [depth for _, depth in depths])
    if greatest == 0:
        return None
    begin = [moment for moment, depth in depths if depth == greatest][0]
    if ends == Ends.SHUT:
        end = min([span[1] for span in spans if covers(span, begin, ends)])
    else:
        end = [moment for moment, depth in depths if moment > begin and depth < greatest][0]
    return (begin, end, greatest)


def are_wished(rows, spans, wish, level, ends):
    """Whether the spans of a sweep are in one form and hold what is wished."""
    if not in_one_form(rows, ends):
        return False
    moments = sorted({moment for moment, _ in turns(list(spans) + rows, ends)})
    held = counts_at(rows, moments, ends)
    for put, depth in zip(held, counts_at(spans, moments, ends)):
        if (put > 0) != (depth >= level if wish == "least" else depth == level):
            return False
    return True


def told_and_due(sweep, spans, wish, level, ends):
    """What the sweep has for a list, and what is due; None if that is the wished."""
    if wish in ("least", "exactly"):
        rows = sweep.spans_at(spans, level, exactly=wish == "exactly")
        return None if are_wished(rows, spans, wish, level, ends) else (tuple(rows), None)
    if wish == "peak":
        told, due = sweep.peak(spans), due_peak(spans, ends)
    else:
        told, due = sweep(spans), max([0] + [depth for _, depth in depths_of(spans, ends)])
    return None if told == due else (told, due)


def verdict_of(sweep, wish, level, ends):
    """The verdict for a wish, a level and ends that are such."""
    for spans in lists_tried(wish, level):
        wrong = told_and_due(sweep, spans, wish, level, ends)
        if wrong is not None:
            return SweepVerdict(False, spans, wrong[0], wrong[1])
    return SweepVerdict(True, None, None, None)


def judge_sweep(sweep, wish, *, level=1, ends="half"):
    """Whether the sweep is right for the wish."""
    check_wished(wish, level, ends)
    return verdict_of(sweep, wish, level, ends)


def sweep_needs(sweep, wish, *, level=1, ends="half"):
    """The weakest orders with which the sweep is right."""
    check_wished(wish, level, ends)
    return weakest(STRETCH_ORDERS, lambda order: verdict_of(sweep.by(order), wish, level, ends).right)


def with_options(sweep, chosen):
    """The sweep with the order and the tie rule of this one, and these options."""
    return Sweep(order=sweep.order, ties=sweep.ties, drops="drops" in chosen, glues="glues" in chosen,
                 settles="settles" in chosen, skips="skips" in chosen)


def sweep_remedies(sweep, wish, *, level=1, ends="half"):
    """The least sets of options with which the sweep is right."""
    check_wished(wish, level, ends)
    return remedies_among(FLAGS, lambda chosen: verdict_of(with_options(sweep, chosen), wish, level, ends).right)
