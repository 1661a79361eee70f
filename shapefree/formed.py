"""Plain terms led to plain forms, and plain forms to programs."""

from shapefree.nodes import Nodes, ordered_form, parts_of
from shapefree.terms import parts, parts_in

LETTERS = "abcdefghijklmnopqrstuvwxyz"


def form_of(term):
    """The plain form of a plain term; its parts are numbered from the last on, those in a part ahead of it."""
    store = Nodes()
    told = []
    for part in reversed(parts(term)):
        inner = [told.pop() for k in range(len(parts_in(part)))]
        told.append(store.done_thing(part[1], inner) if part[0] == "do" else store.number_of(part))
    return ordered_form(store.listed, told[0])


def program_of(form, inputs):
    """A program with so many inputs that has the form, each do of it once."""
    used = uses(form[0])
    lets = []
    terms = []
    for k, node in enumerate(form[0]):
        term = node_term(node, terms)
        if node[0] == "do" and used[k] > 1:
            lets.append((let_name(len(lets)), term))
            term = ("name", lets[-1][0])
        terms.append(term)
    told = terms[form[1]]
    for name, term in reversed(lets):
        told = ("let", name, term, told)
    return (tuple(LETTERS[:inputs]), (), told)


def uses(nodes):
    """How many times each node is a part of others."""
    told = [0] * len(nodes)
    for node in nodes:
        for part in parts_of(node):
            told[part] += 1
    return told


def node_term(node, terms):
    """A node's term, those of the nodes ahead being the terms."""
    if node[0] == "input":
        return ("name", LETTERS[node[1]])
    if node[0] == "fixed":
        return node
    return ("do", node[1], tuple([terms[part] for part in node[2]]))


def let_name(k):
    """The k-th name of a let; of two letters or more and begun with v, it is no input's and no kept word."""
    letters = LETTERS[k % 26]
    rest = k // 26
    while rest:
        letters = LETTERS[rest % 26] + letters
        rest = rest // 26
    return "v" + letters
