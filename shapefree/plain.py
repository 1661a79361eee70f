"""Plain forms: what programs tell, things not being looked into."""

from shapefree.machine import Machine
from shapefree.nodes import Nodes, ordered_form
from shapefree.words import are_unlike, is_whole
from shapefree.worlds import done, fixed_in


def plain(shape, program, most):
    """The plain form of a program, or TooLong; it is the same whatever the shape gives."""
    store = Nodes()
    numbers = [store.number_of(("input", k)) for k in range(len(program[0]))]
    top = Machine(program[1], store, most).thing_of(program[2], dict(zip(program[0], numbers)))
    return ordered_form(store.listed, top)


def value(shape, form, world, inputs):
    """The thing that a form's top is in a world for inputs."""
    things = []
    for node in form[0]:
        things.append(node_value(shape, node, world, inputs, things))
    return things[form[1]]


def node_value(shape, node, world, inputs, things):
    """The thing that a node is, those ahead of it being the things."""
    if node[0] == "input":
        return inputs[node[1]]
    if node[0] == "fixed":
        return fixed_in(shape, world, node[1])
    return done(shape, world, node[1], [things[part] for part in node[2]])


def depth(form):
    """How many do's stand within one another at most."""
    told = []
    for node in form[0]:
        told.append(1 + max([told[part] for part in node[2]]) if node[0] == "do" else 0)
    return told[form[1]]


def deeds(form):
    """How many do's there are when all is written out."""
    return deeds_by_node(form[0])[form[1]]


def deeds_by_node(nodes):
    """How many do's each node has when all is written out; a node's parts stand ahead of it."""
    told = []
    for node in nodes:
        told.append(1 + sum([told[part] for part in node[2]]) if node[0] == "do" else 0)
    return told


def is_plain_form(shape, inputs, thing):
    """Whether it is a plain form of the shape with so many inputs; it may be anything."""
    if not isinstance(thing, tuple) or len(thing) != 2 or not isinstance(thing[0], tuple):
        return False
    if not all([is_node(shape, inputs, node, k) for k, node in enumerate(thing[0])]):
        return False
    if not thing[0] or not is_whole(thing[1]) or thing[1] != len(thing[0]) - 1:
        return False
    return are_unlike(thing[0]) and ordered_form(thing[0], thing[1]) == thing


def is_node(shape, inputs, thing, ahead):
    """Whether it is a node, behind so many others."""
    if not isinstance(thing, tuple) or len(thing) not in (2, 3):
        return False
    if len(thing) == 3:
        return thing[0] == "do" and is_do_node(shape, thing, ahead)
    if thing[0] == "input":
        return is_number_below(thing[1], inputs)
    return thing[0] == "fixed" and thing[1] in shape[0]


def is_do_node(shape, thing, ahead):
    if not isinstance(thing[2], tuple) or (thing[1], len(thing[2])) not in shape[1]:
        return False
    return all([is_number_below(part, ahead) for part in thing[2]])


def is_number_below(thing, bound):
    return is_whole(thing) and 0 <= thing < bound
