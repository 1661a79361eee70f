import itertools
import unittest

from samples import A, BEE, CHAIN, IN, IN_ONE, ONE, PAIR, SHAPE, WORLD, form, made_programs, mix, run_by, s
from shapefree.plain import plain
from shapefree.points import done_on, own_rows, row_of

POINTS = ((WORLD, (0, 1)), (ONE, (0, 0)), (CHAIN, (2, 3)), (PAIR, (1, 0)), (WORLD, (2, 2)), (CHAIN, (0, 1)))


class TestRowOf(unittest.TestCase):
    def test_small(self):
        self.assertEqual(row_of(SHAPE, POINTS, form(IN)), (0, 0, 2, 1, 2, 0))
        self.assertEqual(row_of(SHAPE, POINTS, form(IN_ONE)), (1, 0, 3, 0, 2, 1))
        self.assertEqual(row_of(SHAPE, POINTS, form(A)), (0, 0, 3, 1, 0, 3))
        self.assertEqual(row_of(SHAPE, POINTS, form(BEE)), (2, 0, 1, 0, 2, 1))
        self.assertEqual(row_of(SHAPE, POINTS, form(IN, s(0))), (1, 0, 3, 0, 0, 1))
        self.assertEqual(row_of(SHAPE, POINTS, form(IN, IN_ONE, mix(0, 1))), (1, 0, 3, 1, 2, 2))

    def test_of_programs(self):
        for program in made_programs(24, 80, 60):
            points = tuple((world, inputs[:len(program[0])] + (0,) * (len(program[0]) - 2)) for world, inputs in POINTS)
            told = row_of(SHAPE, points, plain(SHAPE, program, 60))
            self.assertEqual(told, tuple(run_by(program, world, inputs)[0] for world, inputs in points))

    def test_one_to_six_points(self):
        whole = row_of(SHAPE, POINTS, form(IN_ONE, s(0)))
        for many in range(1, 7):
            self.assertEqual(row_of(SHAPE, POINTS[:many], form(IN_ONE, s(0))), whole[:many])

    def test_by_name(self):
        self.assertEqual(row_of(shape=SHAPE, points=POINTS[:1], form=form(A)), (0,))


class TestDoneOn(unittest.TestCase):
    def test_small(self):
        row = (0, 0, 2, 1, 2, 0)
        self.assertEqual(done_on(SHAPE, POINTS, "s", (row,)), (1, 0, 3, 0, 0, 1))
        self.assertEqual(done_on(SHAPE, POINTS, "mix", (row, (1, 0, 3, 0, 2, 1))), (1, 0, 3, 1, 2, 2))
        self.assertEqual(done_on(SHAPE, POINTS, "mix", ((1, 0, 3, 0, 2, 1), row)), (1, 0, 0, 0, 2, 2))

    def test_place_by_place(self):
        points = POINTS[:4:3]
        for one, other in itertools.product(itertools.product(range(3), range(2)), repeat=2):
            told = done_on(SHAPE, points, "mix", (one, other))
            self.assertEqual(told, (WORLD[2][1][one[0]][other[0]], PAIR[2][1][one[1]][other[1]]))

    def test_rows_in_a_list(self):
        rows = [[0, 0, 2, 1, 2, 0], (1, 0, 3, 0, 2, 1)]
        told = done_on(SHAPE, POINTS, "mix", rows)
        self.assertEqual(told, (1, 0, 3, 1, 2, 2))
        self.assertEqual(rows, [[0, 0, 2, 1, 2, 0], (1, 0, 3, 0, 2, 1)])
        self.assertIs(told.__class__, tuple)
        self.assertEqual(done_on(SHAPE, POINTS[:1], "s", [(0,)]), (1,))

    def test_as_forms_do(self):
        for program in made_programs(25, 40, 40):
            nodes, top = plain(SHAPE, program, 40)
            points = tuple((world, (inputs + (0,))[:len(program[0])]) for world, inputs in POINTS)
            rows = []
            for node in nodes:
                if node[0] == "do":
                    rows.append(done_on(SHAPE, points, node[1], [rows[part] for part in node[2]]))
                else:
                    rows.append(row_of(SHAPE, points, form(node)))
            self.assertEqual(rows[top], row_of(SHAPE, points, (nodes, top)))

    def test_by_name(self):
        self.assertEqual(done_on(shape=SHAPE, points=POINTS[:1], d="s", rows=((1,),)), (2,))


class TestOwnRows(unittest.TestCase):
    def test_small(self):
        self.assertEqual(own_rows(SHAPE, POINTS), [(0, 0, 2, 1, 2, 0), (1, 0, 3, 0, 2, 1), (0, 0, 3, 1, 0, 3),
                                                   (2, 0, 1, 0, 2, 1)])
        self.assertEqual(own_rows(SHAPE, POINTS[:1]), [(0,), (1,), (0,), (2,)])

    def test_the_same_twice(self):
        self.assertEqual(own_rows(SHAPE, POINTS[1:2]), [(0,), (0,), (0,), (0,)])
        self.assertEqual(own_rows(SHAPE, ((WORLD, (2, 2)), (PAIR, (0, 0)))), [(2, 0), (2, 0), (0, 1), (2, 0)])

    def test_none_to_three_inputs(self):
        self.assertEqual(own_rows(SHAPE, ((WORLD, ()), (PAIR, ()))), [(0, 1), (2, 0)])
        self.assertEqual(own_rows(SHAPE, ((WORLD, (1,)), (PAIR, (1,)))), [(1, 1), (0, 1), (2, 0)])
        self.assertEqual(own_rows(SHAPE, ((WORLD, (1, 0, 2)),)), [(1,), (0,), (2,), (0,), (2,)])

    def test_no_fixed_things(self):
        world = (2, (), ((1, 0),))
        self.assertEqual(own_rows(((), (("s", 1),)), ((world, (1,)), (world, (0,)))), [(1, 0)])
        self.assertEqual(own_rows(((), (("s", 1),)), ((world, ()),)), [])

    def test_inputs_in_a_list(self):
        points = ((WORLD, [0, 1]), (PAIR, [1, 1]))
        self.assertEqual(own_rows(SHAPE, points), [(0, 1), (1, 1), (0, 1), (2, 0)])
        self.assertEqual(points, ((WORLD, [0, 1]), (PAIR, [1, 1])))

    def test_the_list_is_the_askers(self):
        told = own_rows(SHAPE, POINTS)
        first = list(told)
        told.clear()
        self.assertEqual(own_rows(SHAPE, POINTS), first)

    def test_by_name(self):
        self.assertEqual(own_rows(shape=SHAPE, points=POINTS[:1]), [(0,), (1,), (0,), (2,)])


if __name__ == "__main__":
    unittest.main()
