"""What follows from given pairs, and worlds in which it doesn't."""

from shapefree.joins import Joins, laid_pairs
from shapefree.madeworlds import made_world
from shapefree.plain import value


def follows(shape, inputs, givens, question):
    """("follows", paper), or ("part", world, inputs) where the givens' pairs tell alike and the question's part."""
    together = laid_pairs(givens, question)
    nodes = together[0]
    tops = together[1]
    joins = Joins(len(nodes))
    paper = given_rows(tops, joins)
    more = like_rows(nodes, joins)
    while more:
        paper.extend(more)
        more = like_rows(nodes, joins)
    if joins.are_joined(tops[-2], tops[-1]):
        return ("follows", tuple(paper))
    values = values_by_root(joins, len(nodes))
    made = made_world(shape, inputs, nodes, values, 1 + max(values))
    return ("part", made[0], made[1])


def values_by_root(joins, many):
    """A value for each of so many nodes, the same just for joined ones, counted on from 0."""
    values = []
    numbers = {}
    for u in range(many):
        values.append(numbers.setdefault(joins.root_of(u), len(numbers)))
    return values


def given_rows(tops, joins):
    """Rows that join the givens' pairs, one by one."""
    rows = []
    for k in range(len(tops) // 2 - 1):
        rows.append(("given", k))
        joins.make_joined(tops[2 * k], tops[2 * k + 1])
    return rows


def like_rows(nodes, joins):
    """Rows that join do's by likeness, found once through the nodes; there may be more where there are some."""
    rows = []
    firsts = {}
    for v, node in enumerate(nodes):
        if node[0] == "do":
            u = firsts.setdefault((node[1], tuple([joins.root_of(part) for part in node[2]])), v)
            if not joins.are_joined(u, v):
                rows.append(("like", u, v))
                joins.make_joined(u, v)
    return rows


def parts_given(shape, givens, question, world, inputs):
    """Whether each given's two have the same value in a world for inputs, and the question's two have not."""
    if not all([tell_alike(shape, pair, world, inputs) for pair in givens]):
        return False
    return not tell_alike(shape, question, world, inputs)


def tell_alike(shape, pair, world, inputs):
    return value(shape, pair[0], world, inputs) == value(shape, pair[1], world, inputs)
