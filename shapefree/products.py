"""Products of worlds."""

from shapefree.points import led_by
from shapefree.worlds import longer_by_one


def product(shape, worlds):
    """The world of all tuples of a thing of each world, in which all goes place by place."""
    tuples = tuples_below([world[0] for world in worlds])
    numbers = dict([(things, k) for k, things in enumerate(tuples)])
    fixed = [numbers[tuple([world[1][k] for world in worlds])] for k in range(len(shape[0]))]
    tables = []
    for k, deed in enumerate(shape[1]):
        tables.append(product_table(deed[1], [world[2][k] for world in worlds], tuples, numbers))
    return (len(tuples), tuple(fixed), tuple(tables))


def tuples_below(bounds):
    """All tuples of things, each below the bound at its place, sorted."""
    tuples = [()]
    for bound in bounds:
        tuples = longer_by_one(tuples, bound)
    return tuples


def product_table(places, tables, tuples, numbers):
    """The table, of so many places, of tables side by side; without places they are the things that come."""
    if places == 0:
        return numbers[tuple(tables)]
    return tuple([product_table(places - 1, led_by(tables, things), tuples, numbers) for things in tuples])
