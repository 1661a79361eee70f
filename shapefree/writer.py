"""Texts of shapes, programs and terms."""


def shape_text(shape):
    """A shape's text, one row."""
    deeds = [f"{name}/{places}" for name, places in shape[1]]
    return " ".join(["shape"] + list(shape[0]) + ["|"] + deeds)


def param_text(param):
    return "#" + param[0] if param[1] == "number" else param[0]


def def_text(one):
    head = ["def", one[0]] + [param_text(param) for param in one[1]]
    return " ".join(head + ["=", term_text(one[2])])


def program_text(program):
    """A program's text: its inputs, its defs and what it tells, a row each."""
    first = " ".join(["inputs"] + list(program[0]))
    last = "tell " + term_text(program[2])
    return "\n".join([first] + [def_text(one) for one in program[1]] + [last])


def term_text(term):
    """A term's text, or a number's term's.

    What is still to be written waits on a list, as terms can be deeper than calls may go.
    """
    written = []
    waiting = [term]
    while waiting:
        one = waiting.pop()
        if isinstance(one, str):
            written.append(one)
        else:
            waiting.extend(list(reversed(spread(one))))
    return "".join(written)


def spread(term):
    """What a term's text is put together of, in order: texts, and the parts right in it."""
    kind = term[0]
    if kind == "name" or kind == "fixed":
        return [term[1]]
    if kind == "num":
        return [str(term[1])]
    if kind == "count":
        return ["#" + term[1]]
    if kind == "op":
        return bracketed("[", [term[2], term[1], term[3]], "]")
    return bracketed("(", words_of(term), ")")


def words_of(term):
    """The words and parts that stand within a term's brackets."""
    kind = term[0]
    if kind == "let":
        return ["let", term[1], term[2], term[3]]
    if kind == "loop":
        return ["loop", "#" + term[1], term[2], term[3], term[4], term[5]]
    if kind == "pick":
        return ["pick", term[1]] + list(term[2])
    if kind == "call":
        return ["call", term[1]] + list(term[2])
    return [term[1]] + list(term[2])


def bracketed(opening, words, closing):
    told = [opening, words[0]]
    for word in words[1:]:
        told.append(" ")
        told.append(word)
    told.append(closing)
    return told
