"""Terms in which names and counts are filled in."""

from shapefree.terms import bound_parts, parts_in, with_parts


def filled(term, known):
    """The term, in the place of each name and count that it doesn't bind itself what is known of it.

    Known is by pairs (name, sort), as params are. Parts wait on a list, and are put together from the last on.
    """
    told = []
    for part, left in reversed(parts_with_known(term, known)):
        inner = [told.pop() for k in range(len(parts_in(part)))]
        whole = with_parts(part, inner)
        told.append(left.get(key_of(part), whole))
    return told[0]


def parts_with_known(term, known):
    """All parts in order, each with what is known of those names in it that nothing around it binds."""
    listed = []
    waiting = [(term, known)]
    while waiting:
        entry = waiting.pop()
        listed.append(entry)
        inner = [(part, without(entry[1], bound)) for part, bound in bound_parts(entry[0])]
        waiting.extend(list(reversed(inner)))
    return listed


def without(known, pairs):
    """What is known but for the pairs; nothing is copied where none of them is."""
    if not any([pair in known for pair in pairs]):
        return known
    left = dict(known)
    for pair in pairs:
        left.pop(pair, None)
    return left


def key_of(part):
    """The pair by which a name or count is known, or None of other parts."""
    if part[0] == "name":
        return (part[1], "thing")
    if part[0] == "count":
        return (part[1], "number")
    return None
