"""The parts of terms and of numbers' terms, and their places.

Nothing here calls itself: what a program is led to can be deeper than calls may go.
"""


def parts_in(term):
    """The parts right in a term, in the order in which they are written, as a list."""
    kind = term[0]
    if kind == "do" or kind == "call":
        return list(term[2])
    if kind == "let" or kind == "op":
        return [term[2], term[3]]
    if kind == "loop":
        return [term[2], term[4], term[5]]
    if kind == "pick":
        return [term[1]] + list(term[2])
    return []


def with_parts(term, inner):
    """The term with others in the place of the parts right in it, as many as there are."""
    kind = term[0]
    if kind == "do" or kind == "call":
        return (kind, term[1], tuple(inner))
    if kind == "let" or kind == "op":
        return (kind, term[1], inner[0], inner[1])
    if kind == "loop":
        return (kind, term[1], inner[0], term[3], inner[1], inner[2])
    if kind == "pick":
        return (kind, inner[0], tuple(inner[1:]))
    return term


def bound_parts(term):
    """The parts right in a term, each with the pairs (name, sort) that the term binds in it."""
    told = [(part, ()) for part in parts_in(term)]
    if term[0] == "let":
        told[1] = (term[3], ((term[1], "thing"),))
    if term[0] == "loop":
        told[2] = (term[5], ((term[3], "thing"), (term[1], "number")))
    return told


def placed_parts(term):
    """All pairs (place, part), in the order of the places."""
    told = []
    waiting = [((), term)]
    while waiting:
        pair = waiting.pop()
        told.append(pair)
        inner = [(pair[0] + (k,), part) for k, part in enumerate(parts_in(pair[1]))]
        waiting.extend(list(reversed(inner)))
    return told


def parts(term):
    """All parts, the term itself first, in the order of their places."""
    return [pair[1] for pair in placed_parts(term)]


def places(term):
    """All places, in order."""
    return [pair[0] for pair in placed_parts(term)]


def part_at(term, place):
    """The part at a place, or None where there is no such place."""
    part = term
    for k in place:
        inner = parts_in(part)
        if not 0 <= k < len(inner):
            return None
        part = inner[k]
    return part


def replaced(term, place, part):
    """The term with a part put in at a place that is there."""
    around = []
    inside = term
    for k in place:
        around.append((inside, k))
        inside = parts_in(inside)[k]
    told = part
    for pair in reversed(around):
        inner = parts_in(pair[0])
        inner[pair[1]] = told
        told = with_parts(pair[0], inner)
    return told


def deep(term):
    """How deep a term is: how many times there are parts right in the parts reached so far."""
    depth = 0
    level = parts_below([term])
    while level:
        depth += 1
        level = parts_below(level)
    return depth


def parts_below(level):
    told = []
    for part in level:
        told.extend(parts_in(part))
    return told
