import itertools
import unittest

from drawn import Drawer
from samples import CHAIN, ONE, PAIR, SHAPE, WORLD, made_programs, run_by
from shapefree.moves import is_move
from shapefree.rooms import least_room, room_world, rooms
from shapefree.runs import run
from shapefree.worlds import look_world

S = ((), (("s", 1),))
# From 0 to 2 and to 3 and no further; 1 stays by itself.
WAY = (4, (), ((2, 1, 3, 3),))


def is_room_by(shape, world, things):
    """Whether a rising tuple of things is a room, as the document words it."""
    if not things or any(thing not in things for thing in world[1]):
        return False
    for k, (d, places) in enumerate(shape[1]):
        for chosen in itertools.product(things, repeat=places):
            entry = world[2][k]
            for thing in chosen:
                entry = entry[thing]
            if entry not in things:
                return False
    return True


def rooms_by(shape, world):
    chosen = [things for many in range(world[0] + 1) for things in itertools.combinations(range(world[0]), many)]
    return sorted(things for things in chosen if is_room_by(shape, world, things))


class TestLeastRoom(unittest.TestCase):
    def test_small(self):
        self.assertEqual(least_room(S, WAY, (0,)), (0, 2, 3))
        self.assertEqual(least_room(S, WAY, (1,)), (1,))
        self.assertEqual(least_room(S, WAY, (2,)), (2, 3))
        self.assertEqual(least_room(S, WAY, (3,)), (3,))
        self.assertEqual(least_room(S, WAY, (0, 1)), (0, 1, 2, 3))

    def test_any_order_and_twice(self):
        self.assertEqual(least_room(S, WAY, (3, 1)), (1, 3))
        self.assertEqual(least_room(S, WAY, (3, 1, 3, 1, 1)), (1, 3))
        self.assertEqual(least_room(S, WAY, (2, 2, 1, 0)), (0, 1, 2, 3))

    def test_a_list(self):
        things = [3, 1, 3]
        self.assertEqual(least_room(S, WAY, things), (1, 3))
        self.assertEqual(things, [3, 1, 3])
        self.assertIsNone(least_room(S, WAY, []))

    def test_none_told(self):
        self.assertIsNone(least_room(S, WAY, ()))
        self.assertIsNone(least_room(((), ()), (3, (), ()), ()))
        shape = (("A",), (("s", 1),))
        self.assertEqual(least_room(shape, (4, (2,), WAY[2]), ()), (2, 3))
        self.assertEqual(least_room(shape, (4, (2,), WAY[2]), (1,)), (1, 2, 3))
        self.assertEqual(least_room((("A", "B"), ()), (4, (3, 1), ()), []), (1, 3))

    def test_two_places(self):
        shape = ((), (("d", 2),))
        world = (4, (), (((0, 2, 0, 0), (0, 1, 0, 0), (0, 0, 3, 0), (0, 0, 0, 3)),))
        self.assertEqual(least_room(shape, world, (0,)), (0,))
        self.assertEqual(least_room(shape, world, (1,)), (1,))
        # Of the two together comes 2, and of 2 and itself 3.
        self.assertEqual(least_room(shape, world, (1, 0)), (0, 1, 2, 3))

    def test_drawn(self):
        drawer = Drawer(60)
        seen = 0
        for k in range(300):
            shape = drawer.shape()
            world = drawer.world(shape)
            things = [drawer.thing(world[0]) for j in range(drawer.chance.randrange(4))]
            wide = [room for room in rooms_by(shape, world) if set(things) <= set(room)]
            told = least_room(shape, world, things)
            if not things and not shape[0]:
                self.assertIsNone(told)
                seen += 1
            else:
                self.assertEqual(told, min(wide, key=len))
                self.assertTrue(all(set(told) <= set(room) for room in wide))
                self.assertIs(told.__class__, tuple)
        self.assertGreater(seen, 10)

    def test_by_name(self):
        self.assertEqual(least_room(shape=S, world=WAY, things=(3,)), (3,))


class TestRooms(unittest.TestCase):
    def test_small(self):
        self.assertEqual(rooms(S, WAY), [(0, 1, 2, 3), (0, 2, 3), (1,), (1, 2, 3), (1, 3), (2, 3), (3,)])
        self.assertEqual(rooms(((), ()), (2, (), ())), [(0,), (0, 1), (1,)])
        self.assertEqual(rooms((("A",), ()), (2, (1,), ())), [(0, 1), (1,)])
        self.assertEqual(rooms(SHAPE, ONE), [(0,)])

    def test_all_sets_tried_out(self):
        drawer = Drawer(61)
        many = 0
        for k in range(300):
            shape = drawer.shape()
            world = drawer.world(shape)
            told = rooms(shape, world)
            self.assertEqual(told, rooms_by(shape, world))
            self.assertEqual(told.__class__, list)
            many += len(told)
        self.assertGreater(many, 600)

    def test_the_list_is_the_askers(self):
        told = rooms(S, WAY)
        copy = list(told)
        told.clear()
        self.assertEqual(rooms(S, WAY), copy)

    def test_by_name(self):
        self.assertEqual(rooms(shape=SHAPE, world=ONE), [(0,)])


class TestRoomWorld(unittest.TestCase):
    def test_small(self):
        self.assertEqual(room_world(S, WAY, (0, 2, 3)), (3, (), ((1, 2, 2),)))
        self.assertEqual(room_world(S, WAY, (1, 3)), (2, (), ((0, 1),)))
        self.assertEqual(room_world(S, WAY, (0, 1, 2, 3)), WAY)
        shape = (("A", "B"), (("d", 2), ("s", 1)))
        world = (4, (3, 1), (((0, 0, 0, 0), (0, 3, 2, 1), (0, 0, 0, 0), (2, 1, 0, 3)), (0, 3, 2, 1)))
        self.assertEqual(room_world(shape, world, (1, 3)), (2, (1, 0), (((1, 0), (0, 1)), (1, 0))))

    def test_let_by_and_a_move(self):
        drawer = Drawer(62)
        for k in range(200):
            shape = drawer.shape()
            world = drawer.world(shape)
            for room in rooms(shape, world):
                inner = room_world(shape, world, room)
                self.assertIs(look_world(shape, inner), True)
                self.assertEqual(inner[0], len(room))
                # A room's things, told in order, are a move into the world.
                self.assertIs(is_move(shape, inner, world, room), True)

    def test_what_programs_tell(self):
        drawer = Drawer(63)
        shape = (("A",), (("s", 1), ("d", 2)))
        smaller = 0
        for program in made_programs(64, 200, 60, shape=shape):
            world = drawer.world(shape)
            for room in rooms(shape, world):
                inner = room_world(shape, world, room)
                smaller += 1 < inner[0] < world[0]
                inputs = [drawer.thing(inner[0]) for x in program[0]]
                thing, turns = run(shape, program, inner, inputs, 60)
                there = run_by(program, world, [room[each] for each in inputs], shape)
                self.assertEqual((room[thing], turns), there)
        self.assertGreater(smaller, 15)

    def test_nothing_is_changed(self):
        self.assertEqual(room_world(SHAPE, WORLD, (0, 1, 2)), WORLD)
        self.assertEqual(room_world(SHAPE, CHAIN, (0, 1, 2, 3)), CHAIN)
        self.assertEqual(room_world(SHAPE, PAIR, (0, 1)), PAIR)

    def test_by_name(self):
        self.assertEqual(room_world(shape=S, world=WAY, room=(3,)), (1, (), ((0,),)))


if __name__ == "__main__":
    unittest.main()
