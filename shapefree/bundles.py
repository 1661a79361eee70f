"""Bundles: things of a world bunched so that deeds lead from one bunch to one bunch."""

from shapefree.joins import Joins
from shapefree.worlds import world_from


def least_bundle(shape, world, pairs):
    """The least bundle in which pairs of things are bunched: for each thing the least one of its bunch."""
    joins = Joins(world[0])
    for one, other in pairs:
        joins.make_joined(one, other)
    tables = single_tables(shape, world)
    more = join_led(tables, joins)
    while more:
        more = join_led(tables, joins)
    return tuple([joins.root_of(thing) for thing in range(world[0])])


def single_tables(shape, world):
    """Tables of one place that lead as the deeds do; one of two places is cut up by its first thing and its second."""
    tables = []
    for deed, table in zip(shape[1], world[2]):
        if deed[1] == 1:
            tables.append(table)
        else:
            tables.extend(table)
            tables.extend([tuple([row[k] for row in table]) for k in range(len(table))])
    return tables


def join_led(tables, joins):
    """Join what tables lead to from things that are joined, once through; whether there was anything to join."""
    joined = False
    for table in tables:
        for thing, led in enumerate(table):
            like = table[joins.root_of(thing)]
            if not joins.are_joined(led, like):
                joins.make_joined(led, like)
                joined = True
    return joined


def bundles(shape, world):
    """All bundles of a world, sorted, as a list."""
    found = [()]
    for thing in range(world[0]):
        found = bunched_by_one(found, thing)
    return [bundle for bundle in found if least_bundle(shape, world, list(enumerate(bundle))) == bundle]


def bunched_by_one(found, thing):
    """Each way in which the things ahead are bunched with this one put into each bunch, and into one of its own."""
    told = []
    for bunched in found:
        least = [k for k, root in enumerate(bunched) if root == k]
        told.extend([bunched + (root,) for root in least + [thing]])
    return told


def bundle_world(shape, world, bundle):
    """The world of a bundle: its bunches, renumbered by their least things."""
    least = sorted(set(bundle))
    numbers = dict([(thing, least.index(root)) for thing, root in enumerate(bundle)])
    return world_from(shape, world, least, numbers)
