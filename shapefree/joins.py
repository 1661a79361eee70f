"""Nodes joined by givens and by likeness, and the papers that tell of it."""

from shapefree.alike import laid


class Joins:
    """Which of some nodes are joined, also by way of others: the least of those joined is the root of them all."""

    def __init__(self, many):
        self.leads = list(range(many))

    def root_of(self, u):
        while self.leads[u] != u:
            # Each node passed is led further on, so that ways stay short.
            self.leads[u] = self.leads[self.leads[u]]
            u = self.leads[u]
        return u

    def are_joined(self, u, v):
        return self.root_of(u) == self.root_of(v)

    def make_joined(self, u, v):
        roots = sorted([self.root_of(u), self.root_of(v)])
        self.leads[roots[1]] = roots[0]


def laid_pairs(givens, question):
    """The forms of givens and question laid together, the question's two last: (nodes, tops)."""
    forms = []
    for pair in list(givens) + [question]:
        forms.extend(pair)
    return laid(forms)


def paper_holds(givens, question, paper):
    """Whether each row of a paper is so, and its rows join the question's two."""
    together = laid_pairs(givens, question)
    tops = together[1]
    joins = Joins(len(together[0]))
    for row in paper:
        pair = row_pair(together[0], tops, joins, row)
        if pair is None:
            return False
        joins.make_joined(pair[0], pair[1])
    return joins.are_joined(tops[-2], tops[-1])


def row_pair(nodes, tops, joins, row):
    """The two nodes that a paper's row joins, or None where it isn't so."""
    if row[0] == "like":
        return (row[1], row[2]) if are_like(nodes, joins, row[1], row[2]) else None
    if not 0 <= row[1] < len(tops) // 2 - 1:
        return None
    return (tops[2 * row[1]], tops[2 * row[1] + 1])


def are_like(nodes, joins, u, v):
    """Whether two numbers are those of do's of one deed whose parts are joined, place by place."""
    if not 0 <= u < len(nodes) or not 0 <= v < len(nodes):
        return False
    one = nodes[u]
    other = nodes[v]
    if one[0] != "do" or other[0] != "do" or one[1] != other[1]:
        return False
    return all([joins.are_joined(first, second) for first, second in zip(one[2], other[2])])
