import itertools
import unittest

from drawn import Drawer
from samples import CHAIN, ONE, PAIR, SHAPE, WORLD, WORLDS, made_programs, run_by
from shapefree.moves import is_move
from shapefree.products import product
from shapefree.runs import run
from shapefree.worlds import look_world
from shapefree.worldtexts import read_world, world_text


def tuples_of(worlds):
    return list(itertools.product(*[range(world[0]) for world in worlds]))


def product_by(shape, worlds):
    """The product as the document words it."""
    tuples = tuples_of(worlds)

    def table(places, tables):
        if places == 0:
            return tuples.index(tuple(tables))
        return tuple(table(places - 1, [one[thing] for one, thing in zip(tables, things)]) for things in tuples)
    fixed = tuple(tuples.index(tuple(world[1][k] for world in worlds)) for k in range(len(shape[0])))
    tables = tuple(table(places, [world[2][k] for world in worlds]) for k, (d, places) in enumerate(shape[1]))
    return (len(tuples), fixed, tables)


class TestProduct(unittest.TestCase):
    def test_small(self):
        shape = (("A",), (("s", 1),))
        one, other = (2, (1,), ((1, 0),)), (3, (0,), ((1, 2, 0),))
        # The things are (0, 0), (0, 1), (0, 2), (1, 0), (1, 1), (1, 2).
        self.assertEqual(product(shape, (one, other)), (6, (3,), ((4, 5, 3, 1, 2, 0),)))
        self.assertEqual(product(shape, (other, one)), (6, (1,), ((3, 2, 5, 4, 1, 0),)))

    def test_two_places(self):
        shape = ((), (("d", 2),))
        left, right = (2, (), (((0, 0), (1, 1)),)), (2, (), (((0, 1), (0, 1)),))
        self.assertEqual(product(shape, (left, right)), (4, (), (
            ((0, 1, 0, 1), (0, 1, 0, 1), (2, 3, 2, 3), (2, 3, 2, 3)),)))

    def test_one_world(self):
        for world in WORLDS:
            self.assertEqual(product(SHAPE, (world,)), world)

    def test_one_thing(self):
        self.assertEqual(product(SHAPE, (ONE, ONE, ONE)), ONE)
        self.assertEqual(product(SHAPE, (ONE, WORLD)), WORLD)
        self.assertEqual(product(SHAPE, (CHAIN, ONE)), CHAIN)
        self.assertEqual(product(SHAPE, (ONE,) * 12 + (PAIR,)), PAIR)

    def test_nothing_known(self):
        self.assertEqual(product(((), ()), ((2, (), ()), (3, (), ()), (4, (), ()))), (24, (), ()))

    def test_drawn(self):
        drawer = Drawer(65)
        for k in range(150):
            shape = drawer.shape()
            worlds = tuple(drawer.world(shape, 3) for j in range(1 + k % 3))
            told = product(shape, worlds)
            self.assertEqual(told, product_by(shape, worlds))
            self.assertIs(look_world(shape, told), True)

    def test_moves_to_each_place(self):
        worlds = (WORLD, PAIR, CHAIN)
        whole = product(SHAPE, worlds)
        self.assertEqual(whole[0], 24)
        for k, world in enumerate(worlds):
            self.assertIs(is_move(SHAPE, whole, world, tuple(things[k] for things in tuples_of(worlds))), True)

    def test_what_programs_tell(self):
        drawer = Drawer(66)
        chosen = ((WORLD,), (PAIR, CHAIN), (WORLD, PAIR, CHAIN), (WORLD, WORLD, WORLD), (PAIR,) * 4, (CHAIN, ONE, PAIR))
        wholes = [product(SHAPE, worlds) for worlds in chosen]
        for program in made_programs(67, 80, 60):
            for worlds, whole in zip(chosen, wholes):
                tuples = tuples_of(worlds)
                inputs = [drawer.thing(whole[0]) for x in program[0]]
                thing, turns = run(SHAPE, program, whole, inputs, 60)
                for k, world in enumerate(worlds):
                    there = run_by(program, world, [tuples[each][k] for each in inputs])
                    self.assertEqual((tuples[thing][k], turns), there)

    def test_told_worlds_are_written_and_read(self):
        whole = product(SHAPE, (WORLD, PAIR, CHAIN))
        self.assertEqual(read_world(SHAPE, world_text(SHAPE, whole)), whole)

    def test_by_name(self):
        self.assertEqual(product(shape=SHAPE, worlds=(ONE, PAIR)), PAIR)


if __name__ == "__main__":
    unittest.main()
