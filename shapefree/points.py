"""Points, pairs of a world and inputs, and rows with a thing of each."""

from shapefree.plain import value
from shapefree.worlds import fixed_in, table_in


def row_of(shape, points, form):
    """The row of a plain form: its value at each point."""
    return tuple([value(shape, form, world, inputs) for world, inputs in points])


def done_on(shape, points, d, rows):
    """The row that a deed, done on rows place by place, leads to."""
    told = deed_tables(shape, points, d)
    for row in rows:
        told = led_by(told, row)
    return tuple(told)


def deed_tables(shape, points, d):
    """The table of a deed at each point."""
    return [table_in(shape, point[0], d) for point in points]


def led_by(tables, row):
    """What each table has for the row's thing at its place: a thing, or a table for the next row."""
    return [table[thing] for table, thing in zip(tables, row)]


def own_rows(shape, points):
    """The rows of the inputs and then of the fixed things, in order, as a list."""
    many = max([len(inputs) for world, inputs in points], default=0)
    return [input_row(points, k) for k in range(many)] + [fixed_row(shape, points, c) for c in shape[0]]


def input_row(points, k):
    return tuple([inputs[k] for world, inputs in points])


def fixed_row(shape, points, c):
    return tuple([fixed_in(shape, world, c) for world, inputs in points])
