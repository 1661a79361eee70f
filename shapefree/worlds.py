"""Worlds: looked at, and asked for what they give."""

from shapefree.errors import NoWorld
from shapefree.words import is_whole


def look_world(shape, world):
    """True where it is a world of the shape, else NoWorld; it may be anything."""
    if not isinstance(world, tuple) or len(world) != 3 or not is_whole(world[0]) or world[0] < 1:
        raise NoWorld("form")
    if not are_things(world[1], len(shape[0]), world[0]):
        raise NoWorld("fixed")
    if not are_tables(world[2], shape[1], world[0]):
        raise NoWorld("deed")
    return True


def are_things(thing, many, n):
    """Whether it is a tuple of so many things, of a world that has n."""
    if not isinstance(thing, tuple) or len(thing) != many:
        return False
    return all([is_whole(one) and 0 <= one < n for one in thing])


def are_tables(thing, deeds, n):
    if not isinstance(thing, tuple) or len(thing) != len(deeds):
        return False
    return all([is_table(one, deed[1], n) for one, deed in zip(thing, deeds)])


def is_table(thing, many, n):
    """Whether it is a table of a deed with so many places."""
    if many == 1:
        return are_things(thing, n, n)
    if not isinstance(thing, tuple) or len(thing) != n:
        return False
    return all([are_things(row, n, n) for row in thing])


def table_in(shape, world, d):
    """The table of a deed in a world."""
    return world[2][[deed[0] for deed in shape[1]].index(d)]


def done(shape, world, d, things):
    """What a deed, done on things, leads to in a world."""
    told = table_in(shape, world, d)
    for thing in things:
        told = told[thing]
    return told


def fixed_in(shape, world, c):
    """The thing that a fixed thing is in a world."""
    return world[1][shape[0].index(c)]


def longer_by_one(tuples, n):
    """Each tuple with each of n things behind it, sorted where the tuples are."""
    longer = []
    for things in tuples:
        longer.extend([things + (thing,) for thing in range(n)])
    return longer


def world_from(shape, world, chosen, numbers):
    """The world of things chosen from another one, in order; numbers tell for each thing that comes which one it is."""
    things = [numbers[thing] for thing in world[1]]
    tables = [table_from(deed[1], table, chosen, numbers) for deed, table in zip(shape[1], world[2])]
    return (len(chosen), tuple(things), tuple(tables))


def table_from(places, table, chosen, numbers):
    """A table of so many places for the chosen things; without places it is the thing that comes."""
    if places == 0:
        return numbers[table]
    return tuple([table_from(places - 1, table[thing], chosen, numbers) for thing in chosen])
