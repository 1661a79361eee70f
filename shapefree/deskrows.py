"""The rows that a desk is told, read by their words alone."""

from shapefree.errors import NoRow
from shapefree.words import is_name, read_figures

MOST_GIVENS = 6
MOST_WORLDS = 6


def read_row(row):
    """What a row asks: ("keep", name, text), or (word, programs' names, worlds' names, numbers); else NoRow."""
    if not isinstance(row, str) or "\n" in row:
        raise NoRow()
    words = row.split(" ")
    if words[0] == "keep":
        return read_keep(row)
    sorts = words_by_sort(words[0], words[1:])
    if sorts is None or not all([is_name(name) for name in sorts[0] + sorts[1]]):
        raise NoRow()
    numbers = [read_figures(word) for word in sorts[2]]
    if None in numbers:
        raise NoRow()
    return (words[0], sorts[0], sorts[1], numbers)


def read_keep(row):
    """The text is all behind the second blank, whatever blanks are in it."""
    words = row.split(" ", 2)
    if len(words) < 3 or not is_name(words[1]):
        raise NoRow()
    return tuple(words)


def words_by_sort(word, rest):
    """The words that stand for programs, for worlds and for numbers; None where a row can't have them so."""
    if word == "run" and len(rest) >= 2:
        return (rest[:1], rest[1:2], rest[2:])
    if word in ("plain", "why") and len(rest) == 1:
        return (rest, [], [])
    if word == "alike" and len(rest) == 2:
        return (rest, [], [])
    if word == "moves" and len(rest) == 2:
        return ([], rest, [])
    if word == "follows":
        return follows_words(rest)
    if word == "tells":
        return tells_words(rest)
    return None


def follows_words(rest):
    if rest[2:3] != ["given"]:
        return None
    names = rest[3:]
    if len(names) > 2 * MOST_GIVENS or len(names) % 2 == 1:
        return None
    return (rest[:2] + names, [], [])


def tells_words(rest):
    """Numbers, `by` and worlds; no number is called `by`, but a world may be."""
    if "by" not in rest:
        return None
    at = rest.index("by")
    worlds = rest[at + 1:]
    if not 1 <= len(worlds) <= MOST_WORLDS:
        return None
    return ([], worlds, rest[:at])
