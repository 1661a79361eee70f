"""One deed more: whether programs can tell it already, and what is gained by it."""

from shapefree.closing import closing, told
from shapefree.products import tuples_below


def told_deed(shape, worlds, places, tables, most):
    """("program", form) that tells a deed in each world, given by its tables, else ("belonging", rows), or TooMany."""
    points = []
    row = []
    for world, table in zip(worlds, tables):
        for inputs in tuples_below([world[0]] * places):
            points.append((world, inputs))
            row.append(entry_at(table, inputs))
    return told(shape, tuple(points), row, most)


def entry_at(table, things):
    """What a table has for things, one for each of its places."""
    entry = table
    for thing in things:
        entry = entry[thing]
    return entry


def wider_shape(shape, d, places):
    """The shape with one deed more, last."""
    return (shape[0], shape[1] + ((d, places),))


def wider_world(world, table):
    """The world with one table more, last."""
    return (world[0], world[1], world[2] + (table,))


def gained(shape, points, d, places, tables, most):
    """The rows that the closing of points has with one deed more and lacks without, in order, as a list, or TooMany."""
    known = [entry[0] for entry in closing(shape, points, most)]
    wide = tuple([(wider_world(point[0], table), point[1]) for point, table in zip(points, tables)])
    found = closing(wider_shape(shape, d, places), wide, most)
    return [entry[0] for entry in found if entry[0] not in known]
