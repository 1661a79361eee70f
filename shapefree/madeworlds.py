"""Worlds made so that nodes have the values that are asked for."""


def made_world(shape, inputs, nodes, values, n):
    """A world of n things, and so many inputs, for which each node has its value: (world, inputs).

    Do's of one deed whose parts have the same values have to have one value. What no node tells of is thing 0.
    """
    known = dict(zip(nodes, values))
    things = [known.get(("fixed", c), 0) for c in shape[0]]
    tables = [made_table(deed[1], entries_of(deed[0], nodes, values), n) for deed in shape[1]]
    given = [known.get(("input", k), 0) for k in range(inputs)]
    return ((n, tuple(things), tuple(tables)), tuple(given))


def entries_of(d, nodes, values):
    """What a deed has to lead to: pairs of the things that it is done on and of what comes."""
    told = []
    for node, one in zip(nodes, values):
        if node[0] == "do" and node[1] == d:
            told.append(([values[part] for part in node[2]], one))
    return told


def made_table(many, entries, n):
    """The table of a deed with so many places."""
    if many == 1:
        return made_row([(things[0], one) for things, one in entries], n)
    rows = {}
    for things, one in entries:
        rows.setdefault(things[0], []).append((things[1], one))
    return tuple([made_row(rows.get(k, []), n) for k in range(n)])


def made_row(entries, n):
    row = [0] * n
    for place, one in entries:
        row[place] = one
    return tuple(row)
