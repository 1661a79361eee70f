"""Nodes of plain forms, each kept once, and the order in which a form has them."""


class Nodes:
    """Nodes known by their numbers, no two the same; to a machine the numbers are things."""

    def __init__(self):
        self.listed = []
        self.numbers = {}

    def number_of(self, node):
        if node not in self.numbers:
            self.numbers[node] = len(self.listed)
            self.listed.append(node)
        return self.numbers[node]

    def fixed_thing(self, c):
        return self.number_of(("fixed", c))

    def done_thing(self, d, things):
        return self.number_of(("do", d, tuple(things)))


def parts_of(node):
    """The numbers of a node's parts."""
    return node[2] if node[0] == "do" else ()


def renumbered(node, numbers):
    """The node, its parts being what the numbers tell of them."""
    if node[0] != "do":
        return node
    return ("do", node[1], tuple([numbers[part] for part in node[2]]))


def ordered_form(nodes, top):
    """The form of one of some nodes: what it needs alone, ahead of a node its first part's, then its second's.

    A node waits a second time behind its parts, and is told by then.
    """
    told = []
    numbers = {}
    waiting = [(top, False)]
    while waiting:
        entry = waiting.pop()
        if entry[0] in numbers:
            continue
        node = nodes[entry[0]]
        if entry[1]:
            numbers[entry[0]] = len(told)
            told.append(renumbered(node, numbers))
        else:
            waiting.append((entry[0], True))
            for part in reversed(parts_of(node)):
                waiting.append((part, False))
    return (tuple(told), numbers[top])
