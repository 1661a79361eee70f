import itertools
import unittest

from drawn import Drawer, all_rows, belongings_by, breach_by, own_by, small_cases
from samples import CHAIN, ONE, PAIR, SHAPE, WORLD, made_programs
from shapefree.belongings import breach
from shapefree.closing import closing
from shapefree.plain import plain
from shapefree.points import row_of

POINTS = ((WORLD, (0,)), (PAIR, (1,)))
ALL = tuple(itertools.product(range(3), range(2)))
S = ((), (("s", 1),))
ROUND = (3, (), ((1, 2, 0),))


class TestBreach(unittest.TestCase):
    def test_told_by_closings(self):
        for shape, points in small_cases(30, 120):
            rows = tuple(sorted(entry[0] for entry in closing(shape, points, 30)))
            self.assertIsNone(breach(shape, points, rows))

    def test_all_rows(self):
        drawer = Drawer(31)
        for k in range(40):
            shape = drawer.shape(4, 4)
            points = drawer.points(shape, 1 + k % 3, k % 4, 3)
            self.assertIsNone(breach(shape, points, tuple(all_rows(points))))

    def test_others_than_the_closing(self):
        points = ((WORLD, (0,)),)
        shape, world = ((), (("s", 1),)), (4, (), ((1, 0, 3, 2),))
        self.assertIsNone(breach(shape, ((world, (0,)),), ((0,), (1,))))
        self.assertIsNone(breach(shape, ((world, (0,)),), ((0,), (1,), (2,), (3,))))
        self.assertEqual(breach(shape, ((world, (0,)),), ((0,), (1,), (2,))), ("deed", "s", ((2,),)))
        self.assertIsNone(breach(SHAPE, points, ((0,), (1,), (2,))))

    def test_order(self):
        self.assertIsNone(breach(SHAPE, POINTS, ALL))
        for k in range(1, 6):
            exchanged = ALL[:k - 1] + (ALL[k], ALL[k - 1]) + ALL[k + 1:]
            self.assertEqual(breach(SHAPE, POINTS, exchanged), ("order", k))
            self.assertEqual(breach(SHAPE, POINTS, ALL[:k] + ALL[k - 1:]), ("order", k))
        self.assertEqual(breach(SHAPE, POINTS, ALL[::-1]), ("order", 1))
        self.assertEqual(breach(SHAPE, POINTS, ALL + ALL[:1]), ("order", 6))
        self.assertEqual(breach(SHAPE, POINTS, ALL[:3] + ALL[1:]), ("order", 3))

    def test_own(self):
        # Own are the rows of the input, of A and of Bee: (0, 1), (0, 1) and (2, 0).
        self.assertEqual(breach(SHAPE, POINTS, ALL[:1] + ALL[2:]), ("own", 0))
        self.assertEqual(breach(SHAPE, POINTS, ALL[:4] + ALL[5:]), ("own", 2))
        self.assertEqual(breach(SHAPE, POINTS, ALL[:1] + ALL[2:4]), ("own", 0))
        self.assertEqual(breach(SHAPE, ((WORLD, (1,)),), ((1,), (2,))), ("own", 1))
        self.assertEqual(breach(SHAPE, ((WORLD, (1, 1, 0)),), ((0,), (1,))), ("own", 4))
        self.assertEqual(breach(SHAPE, ((WORLD, (0, 1)),), ((0,), (2,))), ("own", 1))

    def test_deed(self):
        self.assertEqual(breach(S, ((ROUND, (0,)),), ((0,), (1,))), ("deed", "s", ((1,),)))
        self.assertEqual(breach(S, ((ROUND, (0,)),), ((0,),)), ("deed", "s", ((0,),)))
        # mix leads from (0, 2) and from (1, 0) to 2, and s nowhere out.
        shape = (("A",), (("s", 1), ("mix", 2)))
        world = (3, (0,), ((0, 1, 2), ((0, 1, 2), (2, 1, 0), (0, 0, 0))))
        self.assertEqual(breach(shape, ((world, ()),), ((0,), (1,))), ("deed", "mix", ((1,), (0,))))
        self.assertEqual(breach(shape, ((world, (2,)),), ((0,), (2,))), None)
        world = (3, (0,), ((0, 1, 2), ((0, 2, 2), (2, 1, 0), (0, 0, 0))))
        self.assertEqual(breach(shape, ((world, ()),), ((0,), (1,))), ("deed", "mix", ((0,), (1,))))

    def test_deeds_in_order(self):
        shape = (("A",), (("z", 2), ("a", 1)))
        world = (2, (0,), (((0, 0), (0, 0)), (1, 1)))
        self.assertEqual(breach(shape, ((world, ()),), ((0,),)), ("deed", "a", ((0,),)))
        world = (2, (0,), (((1, 0), (0, 0)), (1, 1)))
        self.assertEqual(breach(shape, ((world, ()),), ((0,),)), ("deed", "z", ((0,), (0,))))

    def test_several_amiss(self):
        # Out of order, an own row lacking, and led out of.
        self.assertEqual(breach(SHAPE, POINTS, ((2, 1), (0, 0))), ("order", 1))
        self.assertEqual(breach(SHAPE, POINTS, ((0, 0), (0, 0))), ("order", 1))
        self.assertEqual(breach(SHAPE, POINTS, ((0, 0), (2, 1))), ("own", 0))
        self.assertEqual(breach(SHAPE, POINTS, ((0, 1), (2, 1))), ("own", 2))
        self.assertEqual(breach(SHAPE, POINTS, ((0, 1), (2, 0)))[0], "deed")

    def test_no_rows(self):
        self.assertEqual(breach(SHAPE, POINTS, ()), ("own", 0))
        self.assertEqual(breach(SHAPE, ((WORLD, ()),), ()), ("own", 0))
        self.assertIsNone(breach(S, ((ROUND, ()), (ROUND, ())), ()))
        self.assertIsNone(breach(((), ()), (((2, (), ()), ()),), ()))
        self.assertEqual(breach(((), ()), (((2, (), ()), (1,)),), ()), ("own", 0))

    def test_no_inputs_and_no_fixed_things(self):
        points = ((ROUND, ()),)
        self.assertEqual(breach(S, points, ((0,),)), ("deed", "s", ((0,),)))
        self.assertIsNone(breach(S, points, ((0,), (1,), (2,))))
        self.assertEqual(breach(S, points, ((1,), (0,), (2,))), ("order", 1))
        self.assertIsNone(breach(((), ()), (((2, (), ()), ()),), ((1,),)))

    def test_drawn(self):
        drawer = Drawer(32)
        seen = {}
        for k in range(1500):
            shape = drawer.shape()
            points = drawer.points(shape, drawer.chance.randrange(1, 4), drawer.chance.randrange(4), 3)
            rows = all_rows(points)
            rows = [row for row in rows if row in dict(own_by(shape, points)) or drawer.chance.randrange(5)]
            if rows and not drawer.chance.randrange(3):
                rows.remove(drawer.chance.choice(rows))
            if len(rows) > 1 and not drawer.chance.randrange(8):
                at = drawer.chance.randrange(len(rows) - 1)
                rows[at:at + 2] = drawer.chance.choice(([rows[at + 1], rows[at]], [rows[at], rows[at]]))
            told = breach(shape, points, tuple(rows))
            self.assertEqual(told, breach_by(shape, points, rows))
            seen[told and told[0]] = seen.get(told and told[0], 0) + 1
        self.assertGreater(min(seen.values()), 100)
        self.assertEqual(len(seen), 4)

    def test_every_belonging_has_all_programs_rows(self):
        points = ((PAIR, (0, 1)), (PAIR, (1, 1)), (ONE, (0, 0)))
        found = belongings_by(SHAPE, points)
        for program in [one for one in made_programs(33, 80, 60) if len(one[0]) == 2]:
            row = row_of(SHAPE, points, plain(SHAPE, program, 60))
            for rows in found:
                self.assertIn(row, rows)
        for rows in found:
            self.assertIsNone(breach(SHAPE, points, rows))

    def test_great(self):
        points = ((CHAIN, (0,)), (WORLD, (1,)), (CHAIN, (2,)))
        rows = tuple(all_rows(points))
        self.assertIsNone(breach(SHAPE, points, rows))
        self.assertEqual(breach(SHAPE, points, rows[:-1]), breach_by(SHAPE, points, rows[:-1]))

    def test_nothing_is_changed(self):
        inputs = [0]
        points = ((WORLD, inputs), (PAIR, (1,)))
        self.assertIsNone(breach(SHAPE, points, ALL))
        self.assertEqual(inputs, [0])
        told = breach(SHAPE, points, ALL[:4])
        self.assertEqual(told, ("own", 2))
        self.assertIs(told.__class__, tuple)

    def test_by_name(self):
        self.assertIsNone(breach(shape=SHAPE, points=POINTS, rows=ALL))


if __name__ == "__main__":
    unittest.main()
