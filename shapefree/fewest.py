"""The fewest deeds by which rows can be told."""

from shapefree.closing import closing, numbers_to_do
from shapefree.nodes import ordered_form
from shapefree.plain import deeds_by_node
from shapefree.points import done_on


def fewest(shape, points, most):
    """The fewest deeds of each row of the closing, in its order, as a list, or TooMany."""
    return fewest_nodes(shape, points, closing(shape, points, most))[0]


def fewest_of(shape, points, table, most):
    """("program", many, form) of a table, of the fewest deeds, else ("belonging", rows) without it, or TooMany."""
    found = closing(shape, points, most)
    rows = [entry[0] for entry in found]
    if tuple(table) not in rows:
        return ("belonging", tuple(sorted(rows)))
    at = rows.index(tuple(table))
    best = fewest_nodes(shape, points, found)
    return ("program", best[0][at], ordered_form(best[1], at))


def fewest_nodes(shape, points, found):
    """The fewest deeds of each row of a closing, and a node by which it has so many: (counts, nodes).

    Counts only fall; when none falls any more a node's count is 1 and those of its parts, so no node is made of itself.
    """
    nodes = [entry[2] for entry in found]
    counts = deeds_by_node(nodes)
    doings = all_doings(shape, points, [entry[0] for entry in found])
    fallen = True
    while fallen:
        fallen = False
        for at, node in doings:
            many = 1 + sum([counts[part] for part in node[2]])
            if many < counts[at]:
                counts[at] = many
                nodes[at] = node
                fallen = True
    return (counts, nodes)


def all_doings(shape, points, rows):
    """Each deed done on all rows of a belonging: pairs of the number of the row that comes and a node, by numbers."""
    numbers_of = dict([(row, k) for k, row in enumerate(rows)])
    doings = []
    for d, places in shape[1]:
        for numbers in numbers_to_do(places, 0, len(rows)):
            row = done_on(shape, points, d, [rows[k] for k in numbers])
            doings.append((numbers_of[row], ("do", d, numbers)))
    return doings
