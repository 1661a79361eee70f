"""Worlds written as texts, and read by their shape."""

from shapefree.errors import BadText
from shapefree.words import read_figures


def world_text(shape, world):
    """A world's text: how many things there are, then a row for each fixed thing and each deed."""
    rows = [entries_text("world", [world[0]])]
    for c, thing in zip(shape[0], world[1]):
        rows.append(entries_text(c, [thing]))
    for deed, table in zip(shape[1], world[2]):
        rows.append(entries_text(deed[0], entries_of(deed, table)))
    return "\n".join(rows)


def entries_text(word, entries):
    return " ".join([word] + [str(entry) for entry in entries])


def entries_of(deed, table):
    if deed[1] == 1:
        return list(table)
    told = []
    for row in table:
        told.extend(row)
    return told


def read_world(shape, text):
    """The world of a shape that a text writes, or BadText."""
    rows = text.split("\n")
    n = read_size(rows[0])
    things = []
    for c in shape[0]:
        things.extend(read_entries(rows, 1 + len(things), c, 1, n))
    tables = []
    for deed in shape[1]:
        at = 1 + len(things) + len(tables)
        tables.append(read_table(rows, at, deed, n))
    end = 1 + len(things) + len(tables)
    if len(rows) > end:
        raise BadText(end)
    return (n, tuple(things), tuple(tables))


def read_size(row):
    words = row.split(" ")
    if len(words) != 2 or words[0] != "world":
        raise BadText(0)
    n = read_figures(words[1])
    if n is None or n == 0:
        raise BadText(0)
    return n


def read_table(rows, at, deed, n):
    if deed[1] == 1:
        return tuple(read_entries(rows, at, deed[0], n, n))
    entries = read_entries(rows, at, deed[0], n * n, n)
    return tuple([tuple(entries[n * k:n * k + n]) for k in range(n)])


def read_entries(rows, at, word, many, n):
    """The things of the row with that number, which has to begin with the word and have so many, all below n."""
    words = rows[at].split(" ") if at < len(rows) else []
    if len(words) != 1 + many or words[0] != word:
        raise BadText(at)
    entries = [read_figures(one) for one in words[1:]]
    if None in entries or max(entries) >= n:
        raise BadText(at)
    return entries
