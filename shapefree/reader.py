"""Shapes and programs read from their texts."""

from shapefree.errors import BadText
from shapefree.numbers import SIGNS, is_number
from shapefree.words import is_fixed, is_name, read_figures


def read_shape(text):
    """The shape that a text writes, or BadText."""
    rows = text.split("\n")
    shape = read_shape_row(rows[0])
    if shape is None:
        raise BadText(0)
    if len(rows) > 1:
        raise BadText(1)
    return shape


def read_shape_row(row):
    words = row.split(" ")
    if words[0] != "shape" or "|" not in words:
        return None
    bar = words.index("|")
    fixed = words[1:bar]
    deeds = [read_deed(word) for word in words[bar + 1:]]
    if not all([is_fixed(word) for word in fixed]) or None in deeds:
        return None
    return (tuple(fixed), tuple(deeds))


def read_deed(word):
    name = word[:-2]
    if not is_name(name) or word[-2:] not in ("/1", "/2"):
        return None
    return (name, int(word[-1]))


def read_program(text):
    """The program that a text writes, let by or not, or BadText."""
    rows = text.split("\n")
    inputs = read_inputs(rows[0])
    if inputs is None:
        raise BadText(0)
    defs = []
    for at in range(1, len(rows)):
        if rows[at].startswith("tell "):
            return (inputs, tuple(defs), read_tell(rows, at))
        one = read_def(rows[at])
        if one is None:
            raise BadText(at)
        defs.append(one)
    raise BadText(len(rows))


def read_inputs(row):
    words = row.split(" ")
    if words[0] != "inputs" or not all([is_name(word) for word in words[1:]]):
        return None
    return tuple(words[1:])


def read_tell(rows, at):
    """The term of the row that tells, which has to be the last one."""
    term = read_term(rows[at][len("tell "):])
    if term is None:
        raise BadText(at)
    if at + 1 < len(rows):
        raise BadText(at + 1)
    return term


def read_def(row):
    halves = row.partition(" = ")
    head = halves[0].split(" ")
    if len(head) < 2 or head[0] != "def" or not is_name(head[1]):
        return None
    params = [read_param(word) for word in head[2:]]
    term = read_term(halves[2])
    if term is None or None in params:
        return None
    return (head[1], tuple(params), term)


def read_param(word):
    if is_name(word):
        return (word, "thing")
    if is_count_word(word):
        return (word[1:], "number")
    return None


def is_count_word(word):
    return isinstance(word, str) and word.startswith("#") and is_name(word[1:])


def read_term(text):
    """The term that a text writes, or None where it writes none.

    Each list of `levels` begins with a bracket that isn't closed yet and holds what stands in it so far;
    the first one begins with no bracket, so that nothing closes it.
    """
    levels = [[""]]
    for token in tokens_of(text):
        if token == "(" or token == "[":
            levels.append([token])
        elif token == ")" or token == "]":
            part = read_bracket(levels.pop(), token)
            if part is None:
                return None
            levels[-1].append(part)
        else:
            levels[-1].append(token)
    if len(levels) != 1 or len(levels[0]) != 2:
        return None
    return as_term(levels[0][1])


def tokens_of(text):
    """The brackets and words of a text, in order.

    Parted by single blanks, each piece has to be a word with brackets that open ahead of it and
    ones that close behind it. So a blank too many leaves a word without signs, and a blank too few
    one with brackets in it, and neither is taken for a word anywhere.
    """
    tokens = []
    for piece in text.split(" "):
        rest = piece.lstrip("([")
        word = rest.rstrip(")]")
        tokens.extend(list(piece[:len(piece) - len(rest)]))
        tokens.append(word)
        tokens.extend(list(rest[len(word):]))
    return tokens


def read_bracket(level, closing):
    """The part that a bracket and what stands in it write, or None; words are texts, parts that were read tuples."""
    pair = level[0] + closing
    if pair == "[]":
        return read_op(level[1:])
    if pair == "()":
        return read_form(level[1:])
    return None


def read_op(words):
    if len(words) != 3 or words[1] not in SIGNS:
        return None
    sides = [as_number(words[0]), as_number(words[2])]
    if None in sides:
        return None
    return ("op", words[1], sides[0], sides[1])


def read_form(words):
    if words[0] == "let":
        return read_let(words)
    if words[0] == "loop":
        return read_loop(words)
    if words[0] == "pick":
        return read_pick(words)
    if words[0] == "call":
        return read_call(words)
    return read_do(words)


def read_let(words):
    if len(words) != 4 or not is_name(words[1]):
        return None
    inner = [as_term(word) for word in words[2:]]
    if None in inner:
        return None
    return ("let", words[1], inner[0], inner[1])


def read_loop(words):
    if len(words) != 6 or not is_count_word(words[1]) or not is_name(words[3]):
        return None
    inner = [as_number(words[2]), as_term(words[4]), as_term(words[5])]
    if None in inner:
        return None
    return ("loop", words[1][1:], inner[0], words[3], inner[1], inner[2])


def read_pick(words):
    if len(words) < 3:
        return None
    number = as_number(words[1])
    terms = [as_term(word) for word in words[2:]]
    if number is None or None in terms:
        return None
    return ("pick", number, tuple(terms))


def read_call(words):
    if len(words) < 2 or not is_name(words[1]):
        return None
    args = [as_arg(word) for word in words[2:]]
    if None in args:
        return None
    return ("call", words[1], tuple(args))


def read_do(words):
    if len(words) < 2 or not is_name(words[0]):
        return None
    terms = [as_term(word) for word in words[1:]]
    if None in terms:
        return None
    return ("do", words[0], tuple(terms))


def as_arg(word):
    term = as_term(word)
    return as_number(word) if term is None else term


def as_term(word):
    """What a word, or a part that was read, is where a term must stand; None where it is none."""
    if isinstance(word, tuple):
        return None if is_number(word) else word
    if is_name(word):
        return ("name", word)
    if is_fixed(word):
        return ("fixed", word)
    return None


def as_number(word):
    """What a word, or a part that was read, is where a number's term must stand; None where it is none."""
    if isinstance(word, tuple):
        return word if is_number(word) else None
    if is_count_word(word):
        return ("count", word[1:])
    value = read_figures(word)
    return None if value is None else ("num", value)
