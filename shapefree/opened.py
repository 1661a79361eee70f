"""Programs' terms with their inputs opened, and plain terms."""

from shapefree.filled import filled
from shapefree.terms import parts_in


def opened(program):
    """The program's term with ("input", k) in the place of each name that stands for its k-th input."""
    known = {}
    for k, x in enumerate(program[0]):
        known[(x, "thing")] = ("input", k)
    return filled(program[2], known)


def is_plain(term):
    """Whether a term has no parts but inputs, fixed things and do's."""
    waiting = [term]
    while waiting:
        part = waiting.pop()
        if part[0] not in ("input", "fixed", "do"):
            return False
        waiting.extend(parts_in(part))
    return True
