"""Moves from world to world."""

from shapefree.worlds import longer_by_one


def is_move(shape, one, other, things):
    """Whether things are a move from one world to another; they may be any whole numbers, however many."""
    if len(things) != one[0] or not all([0 <= thing < other[0] for thing in things]):
        return False
    return leads_alike(shape, one, other, things)


def leads_alike(shape, one, other, things):
    """Whether fixed things and deeds lead alike, as far as things of the first world are led to the other one."""
    for here, there in zip(one[1], other[1]):
        if here < len(things) and things[here] != there:
            return False
    for deed, here, there in zip(shape[1], one[2], other[2]):
        if not table_leads(deed[1], here, there, things):
            return False
    return True


def table_leads(places, here, there, things):
    """Whether tables of so many places lead alike in both worlds; without places they are the things that come."""
    if places == 0:
        return here >= len(things) or things[here] == there
    return all([table_leads(places - 1, here[k], there[thing], things) for k, thing in enumerate(things)])


def moves(shape, one, other):
    """All moves from one world to another, sorted, as a list; each is lengthened only while it leads alike."""
    found = [()]
    for k in range(one[0]):
        found = [things for things in longer_by_one(found, other[0]) if leads_alike(shape, one, other, things)]
    return found


def like(shape, one, other):
    """The first move that leads to each thing once, or None."""
    for move in moves(shape, one, other):
        if sorted(move) == list(range(other[0])):
            return move
    return None
