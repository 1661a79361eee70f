"""Programs run in worlds."""

from shapefree.machine import Machine
from shapefree.worlds import done, fixed_in


class WorldThings:
    """Gives a machine the things of a world."""

    def __init__(self, shape, world):
        self.shape = shape
        self.world = world

    def fixed_thing(self, c):
        return fixed_in(self.shape, self.world, c)

    def done_thing(self, d, things):
        return done(self.shape, self.world, d, things)


def run(shape, program, world, inputs, most):
    """What a program tells in a world for inputs, and in how many turns: (thing, turns), or TooLong."""
    machine = Machine(program[1], WorldThings(shape, world), most)
    thing = machine.thing_of(program[2], dict(zip(program[0], inputs)))
    return (thing, machine.turns)
