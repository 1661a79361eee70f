"""Programs that tell alike in every world, and worlds in which others part."""

from shapefree.madeworlds import made_world
from shapefree.nodes import Nodes, renumbered
from shapefree.plain import plain
from shapefree.runs import run


def laid(forms):
    """Plain forms laid together: all their nodes, each once, and the numbers of their tops: (nodes, tops)."""
    store = Nodes()
    tops = []
    for form in forms:
        numbers = []
        for node in form[0]:
            numbers.append(store.number_of(renumbered(node, numbers)))
        tops.append(numbers[form[1]])
    return (tuple(store.listed), tuple(tops))


def alike(shape, one, other, most):
    """("alike", form) of programs with one plain form, else ("part", world, inputs), or TooLong.

    In the world that is told each node of the two forms is a thing of its own.
    """
    first = plain(shape, one, most)
    second = plain(shape, other, most)
    if first == second:
        return ("alike", first)
    nodes = laid((first, second))[0]
    made = made_world(shape, len(one[0]), nodes, list(range(len(nodes))), len(nodes))
    return ("part", made[0], made[1])


def parts_at(shape, one, other, world, inputs, most):
    """Whether two programs tell unlike things in a world for inputs, or TooLong."""
    first = run(shape, one, world, inputs, most)
    second = run(shape, other, world, inputs, most)
    return first[0] != second[0]
