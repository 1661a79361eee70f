"""Closings: all rows that programs can have, layer by layer, and tables that are told by them."""

from shapefree.errors import TooMany
from shapefree.nodes import ordered_form
from shapefree.points import done_on, own_rows


class Found:
    """The rows found so far, each once, as triples (row, layer, made)."""

    def __init__(self, most):
        self.most = most
        self.listed = []
        self.seen = {}

    def put(self, row, layer, made):
        if row in self.seen:
            return
        if len(self.listed) >= self.most:
            raise TooMany(self.most)
        self.seen[row] = True
        self.listed.append((row, layer, made))


def closing(shape, points, most):
    """All rows that are made of the own rows by deeds: a list of (row, layer, made), or TooMany."""
    found = Found(most)
    own = own_rows(shape, points)
    for row, made in zip(own, own_nodes(shape, len(own) - len(shape[0]))):
        found.put(row, 0, made)
    start = 0
    layer = 0
    while start < len(found.listed):
        end = len(found.listed)
        layer += 1
        put_layer(shape, points, found, layer, start, end)
        start = end
    return found.listed


def own_nodes(shape, inputs):
    """What the own rows are made as, in their order."""
    return [("input", k) for k in range(inputs)] + [("fixed", c) for c in shape[0]]


def put_layer(shape, points, found, layer, start, end):
    """Put the rows of a layer, those of the layer ahead being numbered from start up to below end."""
    rows = [entry[0] for entry in found.listed]
    for d, places in shape[1]:
        for numbers in numbers_to_do(places, start, end):
            row = done_on(shape, points, d, [rows[k] for k in numbers])
            found.put(row, layer, ("do", d, numbers))


def numbers_to_do(places, start, end):
    """All tuples of so many numbers below end, one at least from start on, sorted."""
    if places == 1:
        return [(k,) for k in range(start, end)]
    pairs = []
    for k in range(end):
        first = 0 if k >= start else start
        pairs.extend([(k, other) for other in range(first, end)])
    return pairs


def told(shape, points, table, most):
    """("program", form) of the least depth whose row the table is, else ("belonging", rows) without it, or TooMany."""
    found = closing(shape, points, most)
    rows = [entry[0] for entry in found]
    if tuple(table) not in rows:
        return ("belonging", tuple(sorted(rows)))
    return ("program", ordered_form([entry[2] for entry in found], rows.index(tuple(table))))
