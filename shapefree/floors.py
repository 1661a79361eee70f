"""Floors: numbers that no plain form with a row can fall below by its deeds."""

from shapefree.belongings import breach
from shapefree.closing import closing
from shapefree.fewest import all_doings, fewest_nodes
from shapefree.points import own_rows


def floors_of(shape, points, most):
    """The floors of points that are the fewest deeds: a tuple of pairs (row, number), or TooMany."""
    found = closing(shape, points, most)
    counts = fewest_nodes(shape, points, found)[0]
    return tuple(sorted(zip([entry[0] for entry in found], counts)))


def floors_hold(shape, points, floors):
    """Whether floors hold; they may be any pairs of a row of the points and a whole number."""
    rows = [pair[0] for pair in floors]
    counts = [pair[1] for pair in floors]
    if breach(shape, points, rows) is not None or min(counts, default=0) < 0:
        return False
    own = own_rows(shape, points)
    if any([row in own and many != 0 for row, many in floors]):
        return False
    return all([is_let(counts, at, node) for at, node in all_doings(shape, points, rows)])


def is_let(counts, at, node):
    """Whether a row's number is no more than a do that leads to it has by its parts' numbers."""
    return counts[at] <= 1 + sum([counts[part] for part in node[2]])
