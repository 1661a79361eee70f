import itertools
import unittest

from drawn import Drawer
from samples import CHAIN, ONE, PAIR, SHAPE, WORLDS, made_programs
from shapefree.alike import alike
from shapefree.moves import is_move, like, moves
from shapefree.reader import read_program
from shapefree.runs import run

S = ((), (("s", 1),))


def rounds(n):
    """The world of S in which s goes round n things."""
    return (n, (), (tuple((k + 1) % n for k in range(n)),))


def moved_by(shape, one, other, things):
    """Whether things are a move, as the document words it."""
    if len(things) != one[0] or not all(thing in range(other[0]) for thing in things):
        return False
    fixed = all(things[one[1][k]] == other[1][k] for k in range(len(shape[0])))
    tables = []
    for k, (d, places) in enumerate(shape[1]):
        for chosen in itertools.product(range(one[0]), repeat=places):
            ahead, behind = one[2][k], other[2][k]
            for thing in chosen:
                ahead, behind = ahead[thing], behind[things[thing]]
            tables.append(things[ahead] == behind)
    return fixed and all(tables)


def moves_by(shape, one, other):
    tuples = itertools.product(range(other[0]), repeat=one[0])
    return [things for things in tuples if moved_by(shape, one, other, things)]


def renamed(shape, world, names):
    """The world with each thing called by its new name, so that names are a move there."""
    old = [names.index(k) for k in range(world[0])]
    tables = []
    for (d, places), table in zip(shape[1], world[2]):
        if places == 1:
            tables.append(tuple(names[table[k]] for k in old))
        else:
            tables.append(tuple(tuple(names[table[k][m]] for m in old) for k in old))
    return (world[0], tuple(names[thing] for thing in world[1]), tuple(tables))


class TestIsMove(unittest.TestCase):
    def check(self, told, one, other, things, shape=S):
        self.assertIs(is_move(shape, one, other, things), told, things)

    def test_rounds(self):
        self.check(True, rounds(4), rounds(2), (0, 1, 0, 1))
        self.check(True, rounds(4), rounds(2), (1, 0, 1, 0))
        self.check(False, rounds(4), rounds(2), (0, 1, 1, 0))
        self.check(False, rounds(4), rounds(2), (0, 0, 0, 0))
        self.check(True, rounds(4), rounds(4), (2, 3, 0, 1))
        self.check(False, rounds(4), rounds(4), (3, 2, 1, 0))
        self.check(True, rounds(3), rounds(1), (0, 0, 0))
        self.check(False, rounds(2), rounds(4), (0, 1))

    def test_too_short_and_too_long(self):
        self.check(False, rounds(4), rounds(2), ())
        self.check(False, rounds(4), rounds(2), (0, 1))
        self.check(False, rounds(4), rounds(2), (0, 1, 0))
        self.check(False, rounds(4), rounds(2), (0, 1, 0, 1, 0))
        self.check(False, rounds(1), rounds(1), (0, 0))
        self.check(False, rounds(1), rounds(1), ())
        self.check(False, (2, (), ()), (2, (), ()), (1,), ((), ()))
        self.check(False, (2, (), ()), (2, (), ()), (1, 1, 1), ((), ()))

    def test_numbers_beyond(self):
        self.check(False, rounds(4), rounds(2), (0, 1, 2, 1))
        self.check(False, rounds(2), rounds(2), (1, 2))
        self.check(False, rounds(2), rounds(2), (0, 10 ** 9))
        self.check(False, (1, (), ()), (2, (), ()), (2,), ((), ()))
        self.check(True, (1, (), ()), (2, (), ()), (1,), ((), ()))

    def test_numbers_below_nought(self):
        # By Python's own counting from the end these would be moves.
        self.check(False, rounds(4), rounds(2), (0, -1, 0, -1))
        self.check(False, rounds(2), rounds(2), (-2, -1))
        self.check(False, (1, (), ()), (2, (), ()), (-1,), ((), ()))

    def test_fixed_things(self):
        shape = (("A", "B"), ())
        self.check(True, (3, (0, 2), ()), (2, (1, 0), ()), (1, 1, 0), shape)
        self.check(True, (3, (0, 2), ()), (2, (1, 0), ()), (1, 0, 0), shape)
        self.check(False, (3, (0, 2), ()), (2, (1, 0), ()), (0, 1, 0), shape)
        self.check(False, (3, (0, 2), ()), (2, (1, 0), ()), (1, 1, 1), shape)

    def test_two_places(self):
        shape = ((), (("d", 2),))
        first, second = (2, (), (((0, 0), (1, 1)),)), (2, (), (((0, 1), (0, 1)),))
        self.check(True, first, first, (1, 0), shape)
        self.check(False, first, second, (0, 1), shape)
        self.check(False, first, second, (1, 0), shape)
        self.check(True, first, second, (0, 0), shape)

    def test_a_list(self):
        things = [1, 0, 1, 0]
        self.check(True, rounds(4), rounds(2), things)
        self.assertEqual(things, [1, 0, 1, 0])

    def test_forty_things(self):
        self.check(True, rounds(40), rounds(40), tuple((k + 7) % 40 for k in range(40)))
        self.check(True, rounds(40), rounds(8), tuple((k + 7) % 8 for k in range(40)))
        self.check(False, rounds(40), rounds(8), tuple((k + 7) % 8 for k in range(39)) + (7,))
        self.check(False, rounds(40), rounds(7), tuple(k % 7 for k in range(40)))
        shape = (("A",), (("add", 2), ("s", 1)))

        def sums(n):
            table = tuple(tuple((x + y) % n for y in range(n)) for x in range(n))
            return (n, (0,), (table, tuple((k + 1) % n for k in range(n))))
        self.check(True, sums(40), sums(10), tuple(k % 10 for k in range(40)), shape)
        self.check(False, sums(40), sums(10), tuple((k + 1) % 10 for k in range(40)), shape)
        self.check(True, sums(40), sums(40), tuple(range(40)), shape)
        self.check(False, sums(40), sums(40), tuple(range(39)) + (40,), shape)

    def test_told_worlds(self):
        programs = [read_program(f"inputs x\ntell (loop #i {many} y x (mix (s y) x))") for many in (3, 9)]
        world = alike(SHAPE, programs[0], programs[1], 60)[1]
        self.assertGreater(world[0], 10)
        self.check(True, world, world, tuple(range(world[0])), SHAPE)
        self.check(True, world, ONE, (0,) * world[0], SHAPE)
        self.check(False, world, PAIR, (0,) * world[0], SHAPE)

    def test_all_tuples(self):
        drawer = Drawer(53)
        for k in range(150):
            shape = drawer.shape(1, 2)
            one, other = drawer.world(shape, 3), drawer.world(shape, 3)
            for things in itertools.product(range(-1, other[0] + 1), repeat=one[0]):
                self.check(moved_by(shape, one, other, things), one, other, things, shape)

    def test_by_name(self):
        self.assertIs(is_move(shape=S, one=rounds(1), other=rounds(1), things=(0,)), True)


class TestMoves(unittest.TestCase):
    def test_rounds(self):
        self.assertEqual(moves(S, rounds(4), rounds(2)), [(0, 1, 0, 1), (1, 0, 1, 0)])
        self.assertEqual(moves(S, rounds(2), rounds(4)), [])
        self.assertEqual(moves(S, rounds(3), rounds(3)), [(0, 1, 2), (1, 2, 0), (2, 0, 1)])
        self.assertEqual(moves(S, rounds(3), rounds(2)), [])

    def test_nothing_known(self):
        told = moves(((), ()), (3, (), ()), (4, (), ()))
        self.assertEqual(told, list(itertools.product(range(4), repeat=3)))

    def test_drawn(self):
        drawer = Drawer(54)
        seen = {0: 0, 1: 0, 2: 0}
        for k in range(400):
            shape = drawer.shape(1, 2)
            one, other = drawer.world(shape), drawer.world(shape)
            told = moves(shape, one, other)
            self.assertEqual(told, moves_by(shape, one, other))
            self.assertEqual(told.__class__, list)
            self.assertEqual(told, sorted(told))
            seen[min(2, len(told))] += 1
        self.assertGreater(min(seen.values()), 40)

    def test_of_shape(self):
        for one, other in itertools.product(WORLDS, repeat=2):
            self.assertEqual(moves(SHAPE, one, other), moves_by(SHAPE, one, other))
        self.assertEqual(moves(SHAPE, CHAIN, ONE), [(0, 0, 0, 0)])
        self.assertEqual(moves(SHAPE, ONE, PAIR), [])

    def test_what_programs_tell_is_moved(self):
        drawer = Drawer(55)
        programs = made_programs(56, 60, 60)
        moved = 0
        for k in range(60):
            one = drawer.world(SHAPE)
            names = list(range(one[0]))
            drawer.chance.shuffle(names)
            for other in (renamed(SHAPE, one, names), drawer.world(SHAPE, 2), ONE):
                for things in moves(SHAPE, one, other):
                    for program in programs[k % 4::8]:
                        inputs = [drawer.thing(one[0]) for x in program[0]]
                        thing, turns = run(SHAPE, program, one, inputs, 60)
                        there = run(SHAPE, program, other, [things[each] for each in inputs], 60)
                        self.assertEqual(there, (things[thing], turns))
                        moved += 1
        self.assertGreater(moved, 500)

    def test_the_list_is_the_askers(self):
        told = moves(S, rounds(4), rounds(2))
        told.append("more")
        self.assertEqual(moves(S, rounds(4), rounds(2)), [(0, 1, 0, 1), (1, 0, 1, 0)])
        told = moves(S, rounds(2), rounds(4))
        told.append("more")
        self.assertEqual(moves(S, rounds(2), rounds(4)), [])

    def test_by_name(self):
        self.assertEqual(moves(shape=S, one=rounds(1), other=rounds(1)), [(0,)])


class TestLike(unittest.TestCase):
    def test_the_first(self):
        self.assertEqual(like(S, rounds(4), rounds(4)), (0, 1, 2, 3))
        back = (4, (), ((3, 0, 1, 2),))
        self.assertEqual(like(S, rounds(4), back), (0, 3, 2, 1))
        self.assertEqual(like(((), ()), (3, (), ()), (3, (), ())), (0, 1, 2))
        self.assertEqual(like((("A",), ()), (3, (0,), ()), (3, (2,), ())), (2, 0, 1))

    def test_none(self):
        self.assertIsNone(like(S, rounds(4), (4, (), ((1, 0, 3, 2),))))
        self.assertIsNone(like(SHAPE, CHAIN, (4,) + CHAIN[1:2] + (((1, 2, 3, 0), CHAIN[2][1]),)))

    def test_moves_that_lead_to_some_things_alone(self):
        # Moves lead to and fro, but none to each thing once.
        one, other = (3, (), ((0, 0, 0),)), (3, (), ((0, 0, 1),))
        self.assertTrue(moves(S, one, other) and moves(S, other, one))
        self.assertIsNone(like(S, one, other))

    def test_unlike_numbers_of_things(self):
        self.assertIsNone(like(S, rounds(4), rounds(2)))
        self.assertIsNone(like(S, rounds(2), rounds(4)))
        self.assertIsNone(like(((), ()), (2, (), ()), (3, (), ())))
        self.assertIsNone(like(((), ()), (3, (), ()), (2, (), ())))

    def test_drawn(self):
        drawer = Drawer(57)
        several = 0
        for k in range(300):
            shape = drawer.shape(1, 2)
            one = drawer.world(shape)
            names = list(range(one[0]))
            drawer.chance.shuffle(names)
            for other in (renamed(shape, one, names), drawer.world(shape)):
                once = [things for things in moves_by(shape, one, other) if sorted(things) == list(range(other[0]))]
                self.assertEqual(like(shape, one, other), once[0] if once else None)
                several += len(once) > 1
            self.assertIsNotNone(like(shape, one, renamed(shape, one, names)))
        self.assertGreater(several, 50)

    def test_by_name(self):
        self.assertEqual(like(shape=S, one=rounds(1), other=rounds(1)), (0,))


if __name__ == "__main__":
    unittest.main()
