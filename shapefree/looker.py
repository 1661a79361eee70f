"""Programs looked at by a shape."""

from shapefree.errors import NoName, Twice, WrongCount
from shapefree.numbers import is_number
from shapefree.terms import bound_parts


def look(shape, program):
    """True where the program is let by, else the first refusal that is due."""
    inputs = [(x, "thing") for x in program[0]]
    look_unlike(inputs)
    ahead = {}
    for one in program[1]:
        if one[0] in ahead:
            raise Twice(one[0])
        look_unlike(one[1])
        look_term(shape, ahead, one[2], one[1])
        ahead[one[0]] = [param[1] for param in one[1]]
    look_term(shape, ahead, program[2], inputs)
    return True


def look_unlike(pairs):
    """Refuse the first pair (name, sort) that stands ahead already."""
    seen = {}
    for pair in pairs:
        if pair in seen:
            raise Twice(pair[0])
        seen[pair] = True


def look_term(shape, ahead, term, pairs):
    """Look at a term in which the pairs (name, sort) are bound; `ahead` tells the sorts that each def takes.

    Parts wait on a list with what is bound around them, as terms can be deeper than calls may go.
    """
    waiting = [(term, widened({}, pairs))]
    while waiting:
        entry = waiting.pop()
        look_part(shape, ahead, entry[0], entry[1])
        inner = [(part, widened(entry[1], bound)) for part, bound in bound_parts(entry[0])]
        waiting.extend(list(reversed(inner)))


def widened(bound, pairs):
    """What is bound, and the pairs too; nothing is copied where there are none."""
    if not pairs:
        return bound
    wider = dict(bound)
    for pair in pairs:
        wider[pair] = True
    return wider


def look_part(shape, ahead, part, bound):
    """Look at a part itself, not at those in it."""
    kind = part[0]
    if kind == "name" and (part[1], "thing") not in bound:
        raise NoName(part[1])
    if kind == "count" and (part[1], "number") not in bound:
        raise NoName(part[1])
    if kind == "fixed" and part[1] not in shape[0]:
        raise NoName(part[1])
    if kind == "do":
        look_count(dict(shape[1]), part[1], len(part[2]))
    if kind == "call":
        look_count(ahead, part[1], [sort_of(arg) for arg in part[2]])


def look_count(known, name, given):
    """Refuse a deed or def that isn't known, or is known to take another count than is given."""
    if name not in known:
        raise NoName(name)
    if known[name] != given:
        raise WrongCount(name)


def sort_of(arg):
    return "number" if is_number(arg) else "thing"
