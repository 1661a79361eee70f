"""Programs gone through eagerly, turn by turn, over things that aren't looked into.

What is still to be done waits on a list and nothing calls itself, as terms can be deeper than calls may go.
"""

from shapefree.errors import TooLong
from shapefree.numbers import is_number, value_of


class Machine:
    """Goes through terms; the giver gives fixed things and does deeds, whatever things are to it.

    What names stand for is kept in scopes, pairs of dicts: of things, and of numbers.
    """

    def __init__(self, defs, giver, most):
        self.defs = dict([(one[0], one) for one in defs])
        self.giver = giver
        self.most = most
        self.turns = 0
        self.told = []
        self.waiting = []

    def thing_of(self, term, things):
        """What a term tells, the dict telling what its names stand for."""
        self.waiting.append(("enter", term, (things, {})))
        while self.waiting:
            task = self.waiting.pop()
            if task[0] == "enter":
                self.enter(task[1], task[2])
            elif task[0] == "leave":
                self.leave(task[1], task[2])
            else:
                self.go_round(task[1], task[2], task[3], task[4])
        return self.told.pop()

    def count_turn(self):
        self.turns += 1
        if self.turns > self.most:
            raise TooLong(self.most)

    def enter(self, term, scope):
        """Begin with a term: tell it, where nothing has to be gone through ahead of it."""
        kind = term[0]
        if kind == "name":
            self.told.append(scope[0][term[1]])
        elif kind == "fixed":
            self.told.append(self.giver.fixed_thing(term[1]))
        elif kind == "pick":
            picked = value_of(term[1], scope[1]) % len(term[2])
            self.waiting.append(("enter", term[2][picked], scope))
        else:
            self.waiting.append(("leave", term, scope))
            for part in reversed(eager_parts(term)):
                self.waiting.append(("enter", part, scope))

    def leave(self, term, scope):
        """Go on with a term whose eager parts are told."""
        kind = term[0]
        things = self.taken(len(eager_parts(term)))
        if kind == "do":
            self.count_turn()
            self.told.append(self.giver.done_thing(term[1], things))
        elif kind == "let":
            self.waiting.append(("enter", term[3], with_thing(scope, term[1], things[0])))
        elif kind == "loop":
            self.told.append(things[0])
            self.waiting.append(("round", term, scope, 0, value_of(term[2], scope[1])))
        else:
            self.count_turn()
            called = self.defs[term[1]]
            self.waiting.append(("enter", called[2], called_scope(called[1], term[2], things, scope)))

    def go_round(self, term, scope, k, rounds):
        """Go through a loop's round with the number k, where so many rounds have one; its x was told last."""
        if k < rounds:
            self.count_turn()
            self.waiting.append(("round", term, scope, k + 1, rounds))
            bound = with_count(with_thing(scope, term[3], self.told.pop()), term[1], k)
            self.waiting.append(("enter", term[5], bound))

    def taken(self, many):
        """The things told last, so many, in order; they are told no more."""
        last = [self.told.pop() for k in range(many)]
        return list(reversed(last))


def eager_parts(term):
    """The parts that are told ahead of a do, let, loop or call itself, in order."""
    if term[0] == "let":
        return [term[2]]
    if term[0] == "loop":
        return [term[4]]
    return [part for part in term[2] if not is_number(part)]


def with_thing(scope, name, thing):
    things = dict(scope[0])
    things[name] = thing
    return (things, scope[1])


def with_count(scope, name, number):
    counts = dict(scope[1])
    counts[name] = number
    return (scope[0], counts)


def called_scope(params, args, things, scope):
    """The scope of a def's term: its params stand for the things told of its args, and for their numbers."""
    names = [param[0] for param in params if param[1] == "thing"]
    counts = {}
    for param, arg in zip(params, args):
        if param[1] == "number":
            counts[param[0]] = value_of(arg, scope[1])
    return (dict(zip(names, things)), counts)
