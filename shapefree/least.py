"""The least worlds in which programs part."""

from shapefree.alike import laid
from shapefree.madeworlds import made_world
from shapefree.nodes import renumbered
from shapefree.plain import plain


def least_part(shape, one, other, most):
    """A world of the fewest things and inputs for which two programs part: (world, inputs); None of ones alike."""
    first = plain(shape, one, most)
    second = plain(shape, other, most)
    if first == second:
        return None
    together = laid((first, second))
    n = 2
    values = parting_values(together[0], together[1], n)
    while values is None:
        n += 1
        values = parting_values(together[0], together[1], n)
    return made_world(shape, len(one[0]), together[0], values, n)


def parting_values(nodes, tops, n):
    """Values below n of the nodes, as a world can give them, by which the two tops part, or None."""
    waiting = [()]
    while waiting:
        values = waiting.pop()
        if len(values) < len(nodes):
            waiting.extend([values + (one,) for one in next_values(nodes, values, n)])
        elif values[tops[0]] != values[tops[1]]:
            return values
    return None


def next_values(nodes, values, n):
    """The values that can come next behind the values of the first nodes.

    Of those that aren't there yet the least is enough: things that nothing leads to can be exchanged.
    """
    node = renumbered(nodes[len(values)], values)
    for k, one in enumerate(values):
        if renumbered(nodes[k], values) == node:
            return [one]
    return list(range(min(n, max(values, default=-1) + 2)))
