"""Opened terms led to plain ones, step by step."""

from shapefree.errors import NoStep, TooMany
from shapefree.filled import filled
from shapefree.numbers import is_number, value_of
from shapefree.opened import is_plain
from shapefree.terms import part_at, parts, placed_parts, replaced


def is_closed(number):
    """Whether a number's term has no counts."""
    return "count" not in [part[0] for part in parts(number)]


def is_settled(arg):
    """Whether an arg can be put in the place of a param as it is."""
    return is_closed(arg) if is_number(arg) else is_plain(arg)


def def_called(defs, name):
    """The def that is called so, or None."""
    for one in defs:
        if one[0] == name:
            return one
    return None


def can_step(defs, term):
    """Whether a step can be done at a term itself."""
    kind = term[0]
    if kind == "let":
        return is_plain(term[2])
    if kind == "loop":
        return is_closed(term[2])
    if kind == "pick":
        return is_closed(term[1])
    return kind == "call" and def_called(defs, term[1]) is not None and all([is_settled(arg) for arg in term[2]])


def step_places(defs, term):
    """All places of an opened term at which a step can be done, in order."""
    return [place for place, part in placed_parts(term) if can_step(defs, part)]


def step_of(defs, term):
    """What comes in the place of a term at which a step can be done."""
    kind = term[0]
    if kind == "let":
        return filled(term[3], {(term[1], "thing"): term[2]})
    if kind == "loop":
        return loop_step(term)
    if kind == "pick":
        return term[2][value_of(term[1], {}) % len(term[2])]
    return call_step(defs, term)


def loop_step(term):
    rounds = value_of(term[2], {})
    if rounds == 0:
        return term[4]
    last = ("num", rounds - 1)
    shorter = ("loop", term[1], last, term[3], term[4], term[5])
    return ("let", term[3], shorter, filled(term[5], {(term[1], "number"): last}))


def call_step(defs, term):
    called = def_called(defs, term[1])
    known = {}
    for param, arg in zip(called[1], term[2]):
        known[param] = ("num", value_of(arg, {})) if is_number(arg) else arg
    return filled(called[2], known)


def stepped(defs, term, place, most):
    """The term that comes by the step at a place, or NoStep, or TooMany where it has more parts than that."""
    part = part_at(term, place)
    if part is None or not can_step(defs, part):
        raise NoStep()
    told = replaced(term, place, step_of(defs, part))
    if len(parts(told)) > most:
        raise TooMany(most)
    return told


def walked(defs, term, most):
    """How many steps are done, always at the first place, and the plain term that comes: (steps, term)."""
    steps = 0
    left = step_places(defs, term)
    while left:
        term = stepped(defs, term, left[0], most)
        steps += 1
        left = step_places(defs, term)
    return (steps, term)
