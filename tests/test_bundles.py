import itertools
import unittest

from drawn import Drawer
from samples import CHAIN, ONE, PAIR, SHAPE, WORLD, made_programs, run_by
from shapefree.bundles import bundle_world, bundles, least_bundle
from shapefree.moves import is_move
from shapefree.runs import run
from shapefree.worlds import look_world

S = ((), (("s", 1),))
ROUND = (4, (), ((1, 2, 3, 0),))


def is_bundle_by(shape, world, bundle):
    """Whether a tuple is a bundle, as the document words it."""
    if any(bundle.index(least) != least for least in bundle):
        return False
    for k, (d, places) in enumerate(shape[1]):
        led = {}
        for chosen in itertools.product(range(world[0]), repeat=places):
            entry = world[2][k]
            for thing in chosen:
                entry = entry[thing]
            bunched = tuple(bundle[thing] for thing in chosen)
            if led.setdefault(bunched, bundle[entry]) != bundle[entry]:
                return False
    return True


def bundles_by(shape, world):
    return [one for one in itertools.product(range(world[0]), repeat=world[0]) if is_bundle_by(shape, world, one)]


def numbers_by(bundle):
    """The number of each thing's bunch."""
    least = sorted(set(bundle))
    return [least.index(one) for one in bundle]


class TestBundles(unittest.TestCase):
    def test_small(self):
        self.assertEqual(bundles(S, ROUND), [(0, 0, 0, 0), (0, 1, 0, 1), (0, 1, 2, 3)])
        self.assertEqual(bundles(((), ()), (3, (), ())),
                         [(0, 0, 0), (0, 0, 2), (0, 1, 0), (0, 1, 1), (0, 1, 2)])
        self.assertEqual(bundles(SHAPE, ONE), [(0,)])
        self.assertEqual(len(bundles(((), ()), (4, (), ()))), 15)

    def test_all_tuples_tried_out(self):
        drawer = Drawer(68)
        many = 0
        for k in range(250):
            shape = drawer.shape()
            world = drawer.world(shape)
            told = bundles(shape, world)
            self.assertEqual(told, bundles_by(shape, world))
            self.assertEqual((told.__class__, told), (list, sorted(told)))
            many += len(told) > 2
        self.assertGreater(many, 40)

    def test_the_list_is_the_askers(self):
        told = bundles(S, ROUND)
        told.pop()
        self.assertEqual(bundles(S, ROUND), [(0, 0, 0, 0), (0, 1, 0, 1), (0, 1, 2, 3)])

    def test_by_name(self):
        self.assertEqual(bundles(shape=SHAPE, world=ONE), [(0,)])


class TestLeastBundle(unittest.TestCase):
    def test_no_pairs(self):
        self.assertEqual(least_bundle(S, ROUND, ()), (0, 1, 2, 3))
        self.assertEqual(least_bundle(SHAPE, WORLD, ()), (0, 1, 2))

    def test_a_thing_and_itself(self):
        self.assertEqual(least_bundle(S, ROUND, ((2, 2),)), (0, 1, 2, 3))
        self.assertEqual(least_bundle(S, ROUND, ((2, 2), (1, 3), (0, 0))), (0, 1, 0, 1))

    def test_one_pair(self):
        self.assertEqual(least_bundle(S, ROUND, ((0, 2),)), (0, 1, 0, 1))
        self.assertEqual(least_bundle(S, ROUND, ((3, 1),)), (0, 1, 0, 1))
        self.assertEqual(least_bundle(S, ROUND, ((1, 2),)), (0, 0, 0, 0))
        self.assertEqual(least_bundle(((), ()), (4, (), ()), ((3, 1),)), (0, 1, 2, 1))

    def test_several_pairs(self):
        self.assertEqual(least_bundle(((), ()), (4, (), ()), ((3, 1), (2, 0))), (0, 1, 0, 1))
        self.assertEqual(least_bundle(((), ()), (4, (), ()), ((3, 2), (2, 1), (1, 3))), (0, 1, 1, 1))
        self.assertEqual(least_bundle(((), ()), (4, (), ()), [(3, 2), (2, 1), (1, 0)]), (0, 0, 0, 0))

    def test_two_places(self):
        shape = ((), (("d", 2),))
        # Bunching 2 and 3 bunches 0 and 1: by the first place here, by the second there.
        first = (4, (), (((0, 0, 0, 0), (0, 0, 0, 0), (0, 0, 0, 0), (1, 0, 0, 0)),))
        second = (4, (), (((0, 0, 0, 1), (0, 0, 0, 0), (0, 0, 0, 0), (0, 0, 0, 0)),))
        for world in (first, second):
            self.assertEqual(least_bundle(shape, world, ((2, 3),)), (0, 0, 2, 2))
            self.assertEqual(least_bundle(shape, world, ((1, 2),)), (0, 1, 1, 3))

    def test_bunched_again_and_again(self):
        # The second deed bunches 2 and 3, and only by them does the first one bunch all.
        shape = ((), (("s", 1), ("t", 1)))
        world = (4, (), ((0, 0, 0, 2), (2, 3, 0, 0)))
        self.assertEqual(least_bundle(shape, world, ((0, 1),)), (0, 0, 0, 0))
        self.assertEqual(least_bundle(shape, world, ((2, 3),)), (0, 1, 0, 0))

    def test_drawn(self):
        drawer = Drawer(69)
        for k in range(300):
            shape = drawer.shape()
            world = drawer.world(shape)
            pairs = tuple((drawer.thing(world[0]), drawer.thing(world[0])) for j in range(k % 4))
            told = least_bundle(shape, world, pairs)
            self.assertIs(told.__class__, tuple)
            wide = [one for one in bundles_by(shape, world) if all(one[x] == one[y] for x, y in pairs)]
            self.assertIn(told, wide)
            for one in wide:
                for x, y in itertools.product(range(world[0]), repeat=2):
                    self.assertTrue(told[x] != told[y] or one[x] == one[y])

    def test_by_name(self):
        self.assertEqual(least_bundle(shape=S, world=ROUND, pairs=()), (0, 1, 2, 3))


class TestBundleWorld(unittest.TestCase):
    def test_small(self):
        self.assertEqual(bundle_world(S, ROUND, (0, 1, 0, 1)), (2, (), ((1, 0),)))
        self.assertEqual(bundle_world(S, ROUND, (0, 0, 0, 0)), (1, (), ((0,),)))
        self.assertEqual(bundle_world(S, ROUND, (0, 1, 2, 3)), ROUND)
        shape = (("A", "B"), (("d", 2),))
        world = (4, (3, 2), (((1, 1, 3, 2), (0, 0, 2, 2), (3, 3, 2, 2), (2, 2, 3, 3)),))
        self.assertEqual(bundle_world(shape, world, (0, 0, 2, 2)), (2, (1, 1), (((0, 1), (1, 1)),)))

    def test_let_by_and_a_move(self):
        drawer = Drawer(70)
        for k in range(200):
            shape = drawer.shape()
            world = drawer.world(shape)
            for bundle in bundles(shape, world):
                outer = bundle_world(shape, world, bundle)
                self.assertIs(look_world(shape, outer), True)
                self.assertEqual(outer[0], len(set(bundle)))
                self.assertIs(is_move(shape, world, outer, tuple(numbers_by(bundle))), True)

    def test_what_programs_tell(self):
        drawer = Drawer(71)
        shape = (("A",), (("s", 1), ("e", 1), ("d", 2)))
        sums = tuple(tuple((x + y) % 4 for y in range(4)) for x in range(4))
        smaller = 0
        for program in made_programs(72, 80, 60, shape=shape):
            for world in (drawer.world(shape), (4, (1,), ((3, 0, 1, 2), (0, 2, 0, 2), sums))):
                for bundle in bundles(shape, world):
                    outer = bundle_world(shape, world, bundle)
                    smaller += 1 < outer[0] < world[0]
                    inputs = [drawer.thing(world[0]) for x in program[0]]
                    thing, turns = run_by(program, world, inputs, shape)
                    numbers = numbers_by(bundle)
                    there = run(shape, program, outer, [numbers[each] for each in inputs], 60)
                    self.assertEqual(there, (numbers[thing], turns))
        self.assertGreater(smaller, 50)

    def test_of_shape(self):
        for world in (WORLD, CHAIN, PAIR):
            self.assertEqual(bundle_world(SHAPE, world, tuple(range(world[0]))), world)
            self.assertEqual(bundle_world(SHAPE, world, (0,) * world[0]), ONE)

    def test_by_name(self):
        self.assertEqual(bundle_world(shape=S, world=ROUND, bundle=(0, 0, 0, 0)), (1, (), ((0,),)))


if __name__ == "__main__":
    unittest.main()
