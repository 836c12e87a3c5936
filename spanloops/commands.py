"""The commands of a desk: how they are written, and what each does.

A shelf is a dict with what a desk keeps, by names: tuples of items, and loops. It is never
changed; a command that changes something makes a new one.
"""

from spanloops.days import Days
from spanloops.errors import BadCommand, NoName, NoRow, NoSpan, TooMany
from spanloops.judging import judge
from spanloops.loops import Loop
from spanloops.orders import is_event
from spanloops.questions import needs, parting
from spanloops.readers import PARTS, read_as
from spanloops.spans import pairs_text, union
from spanloops.spreads import Spread
from spanloops.sweeps import Sweep
from spanloops.texts import item_text, rule_line, write_items, write_loop

# What stands behind the first word of a command. Those of KEPT are names under which something is kept.
FORMS = {
    "list": ("name", "items"),
    "add": ("spans", "span"),
    "take": ("list", "number"),
    "copy": ("any", "name"),
    "forget": ("any",),
    "loop": ("name", "order"),
    "rule": ("loop", "part", "rule"),
    "unrule": ("loop", "part", "number"),
    "undo": (),
    "names": (),
    "show": ("any",),
    "union": ("spans", "ends"),
    "both": ("spans", "spans"),
    "without": ("spans", "spans"),
    "either": ("spans", "spans"),
    "gaps": ("spans", "window"),
    "cut": ("spans", "window"),
    "covers": ("spans", "span"),
    "most": ("spans",),
    "draw": ("spans", "number", "number", "number"),
    "run": ("loop", "list"),
    "judge": ("loop", "wish"),
    "needs": ("loop", "wish"),
    "part": ("loop", "loop", "ends"),
}
KEPT = ("any", "list", "spans", "loop")


def form_of(words):
    """The form that these words must have, None if no command begins like this."""
    if words[0] not in FORMS:
        return None
    form = FORMS[words[0]]
    return form + ("window",) if words[0] == "run" and len(words) == 4 else form


def texts_behind(words, form):
    """The texts for the parts of the form, fewer if there are too few words; the last part takes the rest."""
    many = len(form)
    if many == 0:
        return words[1:]
    return words[1:many] + [" ".join(words[many:])]


def read_command(command):
    """The first word of a command, any object, its form, and what the texts behind the word are."""
    words = command.split(" ") if isinstance(command, str) else [""]
    form = form_of(words)
    if form is None:
        raise BadCommand(command)
    texts = texts_behind(words, form)
    told = [read_as("name" if kind in KEPT else kind, text) for kind, text in zip(form, texts)]
    if len(texts) != len(form) or any([one is None for one in told]):
        raise BadCommand(command)
    return words[0], form, told


def suits(thing, kind):
    """Whether something that is kept, None for nothing, is of a kind of KEPT."""
    if kind == "any":
        return thing is not None
    if kind == "loop":
        return isinstance(thing, Loop)
    return isinstance(thing, tuple) and (kind == "list" or thing == () or not is_event(thing[0]))


def things_of(shelf, form, told):
    """What a command tells, with what is kept in the place of its names."""
    things = []
    for kind, one in zip(form, told):
        if kind not in KEPT:
            things.append(one)
        elif suits(shelf.get(one), kind):
            things.append(shelf[one])
        else:
            raise NoName(one)
    return things


def with_thing(shelf, name, thing):
    """The shelf with this under the name."""
    if name not in shelf and len(shelf) >= 50:
        raise TooMany(50)
    changed = dict(shelf)
    changed[name] = thing
    return changed


def with_part(loop, part, rules):
    """The loop with these rules in a part."""
    parts = {word: loop.part(word) for word in PARTS}
    parts[part] = rules
    return Loop(loop.order, ahead=parts["ahead"], each=parts["each"], behind=parts["behind"])


def keep_list(shelf, name, items):
    """Keeps a list."""
    return str(len(items)), with_thing(shelf, name, tuple(items))


def add_span(shelf, name, span):
    """Appends a stretch to a list."""
    spans = shelf[name] + (span,)
    if len(spans) > 1000:
        raise TooMany(1000)
    return str(len(spans)), with_thing(shelf, name, spans)


def take_item(shelf, name, index):
    """Removes an item of a list."""
    items = shelf[name]
    if not 0 <= index < len(items):
        raise NoSpan(index)
    return item_text(items[index]), with_thing(shelf, name, items[:index] + items[index + 1:])


def copy_thing(shelf, name, other):
    """Keeps what is under one name under another one, too."""
    return other, with_thing(shelf, other, shelf[name])


def forget_thing(shelf, name):
    """Removes a name."""
    return name, {other: thing for other, thing in shelf.items() if other != name}


def keep_loop(shelf, name, order):
    """Keeps a loop without rules."""
    return name, with_thing(shelf, name, Loop(order))


def add_rule(shelf, name, part, rule):
    """Appends a rule to a part of a loop, which refuses a rule that may not stand there."""
    rules = shelf[name].part(part) + (rule,)
    return str(len(rules)), with_thing(shelf, name, with_part(shelf[name], part, rules))


def take_rule(shelf, name, part, number):
    """Removes a rule of a part of a loop."""
    rules = shelf[name].part(part)
    if not 1 <= number <= len(rules):
        raise NoRow(number)
    left = rules[:number - 1] + rules[number:]
    return rule_line(part, rules[number - 1]), with_thing(shelf, name, with_part(shelf[name], part, left))


def tell_thing(thing):
    """The text of a list or a loop."""
    return write_loop(thing) if isinstance(thing, Loop) else write_items(thing)


def tell_union(spans, ends):
    """The text of the union."""
    return pairs_text(union(spans, ends))


def tell_both(spans, others):
    """The text of what both lists hold."""
    return str(Spread.of(spans) & Spread.of(others))


def tell_without(spans, others):
    """The text of what the first list holds and the second does not."""
    return str(Spread.of(spans) - Spread.of(others))


def tell_either(spans, others):
    """The text of what exactly one of the lists holds."""
    return str(Spread.of(spans) ^ Spread.of(others))


def tell_gaps(spans, window):
    """The text of what the window holds and the list does not."""
    return tell_without([window], spans)


def tell_cut(spans, window):
    """The text of what the window and the list hold."""
    return tell_both([window], spans)


def tell_covers(spans, span):
    """Whether the list holds each moment of the stretch."""
    return "yes" if span in Spread.of(spans) else "no"


def tell_most(spans):
    """The greatest number of stretches that hold one moment."""
    sweep = Sweep()
    return str(sweep(spans))


def tell_drawing(spans, first, last, columns):
    """The drawing of the list."""
    days = Days()
    return days.drawing(spans, first, last, columns)


def tell_run(loop, items, window=None):
    """What a run of the loop over the list results in."""
    result = loop(items, window)
    told = f"put {pairs_text(result.puts)}"
    if result.answer is not None:
        told = told + (", said yes" if result.answer else ", said no")
    told = f"{told}, tally {result.tally}"
    if result.broken is not None:
        part, number = result.broken
        told = f"{told}, broken {part} {number}"
    return told


def tell_verdict(loop, wish):
    """Whether the loop is right, with the number of situations or of items that show it."""
    verdict = judge(loop, wish)
    if not verdict.right:
        return f"wrong {len(verdict.witness)}"
    return "right" if verdict.table is None else f"right {len(verdict.table)}"


def tell_needs(loop, wish):
    """The weakest orders of the loop."""
    return ", ".join(needs(loop, wish)) or "none"


def tell_parting(loop, other, ends):
    """Whether the loops are alike, or the fewest items on which they part."""
    found = parting(loop, other, ends=ends)
    return "alike" if found is None else f"part {len(found.witness)}"


# Each takes a shelf and what the command tells, and returns the answer and the new shelf.
CHANGES = {
    "list": keep_list, "add": add_span, "take": take_item, "copy": copy_thing, "forget": forget_thing,
    "loop": keep_loop, "rule": add_rule, "unrule": take_rule,
}

# Each takes what the command tells, with what is kept in the place of names, and returns the answer.
ASKS = {
    "show": tell_thing, "union": tell_union, "both": tell_both, "without": tell_without, "either": tell_either,
    "gaps": tell_gaps, "cut": tell_cut, "covers": tell_covers, "most": tell_most, "draw": tell_drawing,
    "run": tell_run, "judge": tell_verdict, "needs": tell_needs, "part": tell_parting,
}


def changed_by(word, shelf, told):
    """The answer and the new shelf of a command of CHANGES."""
    change = CHANGES[word]
    return change(shelf, *told)


def asked_by(word, things):
    """The answer of a command of ASKS."""
    ask = ASKS[word]
    return ask(*things)
