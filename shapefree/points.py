"""Points, pairs of a world and inputs, and rows with a thing of each."""

from shapefree.plain import value
from shapefree.worlds import done, fixed_in


def row_of(shape, points, form):
    """The row of a plain form: its value at each point."""
    return tuple([value(shape, form, world, inputs) for world, inputs in points])


def done_on(shape, points, d, rows):
    """The row that a deed, done on rows place by place, leads to."""
    told = []
    for k, point in enumerate(points):
        told.append(done(shape, point[0], d, [row[k] for row in rows]))
    return tuple(told)


def own_rows(shape, points):
    """The rows of the inputs and then of the fixed things, in order, as a list."""
    many = max([len(inputs) for world, inputs in points], default=0)
    return [input_row(points, k) for k in range(many)] + [fixed_row(shape, points, c) for c in shape[0]]


def input_row(points, k):
    return tuple([inputs[k] for world, inputs in points])


def fixed_row(shape, points, c):
    return tuple([fixed_in(shape, world, c) for world, inputs in points])
