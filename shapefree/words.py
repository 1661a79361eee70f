"""Names, fixed things, shapes, and the figures by which numbers are written."""

KEPT = ("inputs", "def", "tell", "let", "loop", "pick", "call", "world", "shape")
LONGEST = 6


def is_whole(thing):
    """Whether it is a whole number; Python counts truths among the ints, Shapefree doesn't."""
    return isinstance(thing, int) and not isinstance(thing, bool)


def has_word_length(text):
    return 1 <= len(text) <= LONGEST


def is_small(text):
    return all(["a" <= letter <= "z" for letter in text])


def is_name(text):
    """Whether a text can be the name of a thing, a number, a deed or a def."""
    return isinstance(text, str) and has_word_length(text) and is_small(text) and text not in KEPT


def is_fixed(text):
    """Whether a text can call a fixed thing."""
    return isinstance(text, str) and has_word_length(text) and "A" <= text[0] <= "Z" and is_small(text[1:])


def is_deed(thing):
    if not isinstance(thing, tuple) or len(thing) != 2:
        return False
    return is_name(thing[0]) and is_whole(thing[1]) and 1 <= thing[1] <= 2


def are_unlike(texts):
    return len(set(texts)) == len(texts)


def are_shape_fixed(thing):
    if not isinstance(thing, tuple) or not all([is_fixed(one) for one in thing]):
        return False
    return are_unlike(thing)


def are_shape_deeds(thing):
    if not isinstance(thing, tuple) or not all([is_deed(one) for one in thing]):
        return False
    return are_unlike([deed[0] for deed in thing])


def is_shape(thing):
    """Whether it is a shape, of however many fixed things and deeds."""
    if not isinstance(thing, tuple) or len(thing) != 2:
        return False
    return are_shape_fixed(thing[0]) and are_shape_deeds(thing[1])


def read_figures(text):
    """The number that a text writes by figures, or None where it writes none."""
    if not has_word_length(text) or not all(["0" <= figure <= "9" for figure in text]):
        return None
    if len(text) > 1 and text[0] == "0":
        return None
    return int(text)
