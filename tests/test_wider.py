import itertools
import unittest

from drawn import Drawer, small_cases
from samples import PAIR, SHAPE, WORLD, made_programs, run_by
from shapefree.belongings import breach
from shapefree.closing import closing, told
from shapefree.errors import TooMany
from shapefree.plain import depth, is_plain_form, plain, value
from shapefree.points import row_of
from shapefree.wider import gained, told_deed, wider_shape, wider_world
from shapefree.words import is_shape
from shapefree.worlds import look_world

S = ((), (("s", 1),))
ROUND = (4, (), ((1, 2, 3, 0),))
THREE = (3, (), ((1, 2, 0),))


def entry(table, things):
    for thing in things:
        table = table[thing]
    return table


def points_by(worlds, places):
    return tuple((world, inputs) for world in worlds for inputs in itertools.product(range(world[0]), repeat=places))


def table_by(world, places, tell):
    """The table of the deed that a function tells of things."""
    if places == 1:
        return tuple(tell((x,)) for x in range(world[0]))
    return tuple(tuple(tell((x, y)) for y in range(world[0])) for x in range(world[0]))


class TestToldDeed(unittest.TestCase):
    def refuse(self, most, asked, *args):
        with self.assertRaises(TooMany) as caught:
            asked(*args, most)
        self.assertEqual(caught.exception.most, most)

    def tell(self, shape, worlds, places, tables):
        """What is told of a deed, looked at by what must hold of it."""
        found = told_deed(shape, worlds, places, tables, 30)
        points = points_by(worlds, places)
        row = tuple(entry(table, inputs) for world, table in zip(worlds, tables)
                    for inputs in itertools.product(range(world[0]), repeat=places))
        self.assertEqual((found.__class__, len(found)), (tuple, 2))
        if found[0] == "program":
            self.assertIs(is_plain_form(shape, places, found[1]), True)
            for world, table in zip(worlds, tables):
                for inputs in itertools.product(range(world[0]), repeat=places):
                    self.assertEqual(value(shape, found[1], world, inputs), entry(table, inputs))
        else:
            self.assertEqual(found[0], "belonging")
            self.assertIsNone(breach(shape, points, found[1]))
            self.assertNotIn(row, found[1])
        same = told(shape, points, row, 30)
        self.assertEqual(same[0], found[0])
        if same[0] == "program":
            self.assertEqual(depth(same[1]), depth(found[1]))
        return found

    def test_one_place(self):
        self.assertEqual(self.tell(S, (ROUND,), 1, ((2, 3, 0, 1),)),
                         ("program", ((("input", 0), ("do", "s", (0,)), ("do", "s", (1,))), 2)))
        self.assertEqual(self.tell(S, (ROUND,), 1, ((0, 1, 2, 3),)), ("program", ((("input", 0),), 0)))
        self.assertEqual(self.tell(S, (ROUND,), 1, ((3, 2, 1, 0),))[0], "belonging")
        self.assertEqual(self.tell(S, (ROUND,), 1, ((0, 0, 0, 0),))[0], "belonging")

    def test_two_places(self):
        second = tuple((1, 2, 3, 0) for k in range(4))
        self.assertEqual(self.tell(S, (ROUND,), 2, (second,)),
                         ("program", ((("input", 1), ("do", "s", (0,))), 1)))
        first = tuple((k,) * 4 for k in range(4))
        self.assertEqual(self.tell(S, (ROUND,), 2, (first,)), ("program", ((("input", 0),), 0)))
        sums = table_by(ROUND, 2, lambda things: sum(things) % 4)
        self.assertEqual(self.tell(S, (ROUND,), 2, (sums,))[0], "belonging")
        shape = ((), (("add", 2),))
        twice = table_by(ROUND, 2, lambda things: (things[0] + 2 * things[1]) % 4)
        self.assertEqual(self.tell(shape, ((4, (), (sums,)),), 2, (twice,))[0], "program")
        less = table_by(ROUND, 2, lambda things: (things[0] + 3) % 4)
        self.assertEqual(self.tell(shape, ((4, (), (sums,)),), 2, (less,))[0], "belonging")

    def test_several_worlds(self):
        # Two steps round four things and one round three are ten steps; one and two are five.
        self.assertEqual(depth(self.tell(S, (ROUND, THREE), 1, ((2, 3, 0, 1), (1, 2, 0)))[1]), 10)
        self.assertEqual(depth(self.tell(S, (ROUND, THREE), 1, ((1, 2, 3, 0), (2, 0, 1)))[1]), 5)
        self.assertEqual(self.tell(S, (ROUND, THREE), 1, ((1, 2, 3, 0), (1, 0, 2)))[0], "belonging")
        # What can be told in each by itself can't in both.
        worlds = (ROUND, ROUND)
        tables = ((1, 2, 3, 0), (2, 3, 0, 1))
        for world, table in zip(worlds, tables):
            self.assertEqual(self.tell(S, (world,), 1, (table,))[0], "program")
        self.assertEqual(self.tell(S, worlds, 1, tables)[0], "belonging")

    def test_worlds_in_order(self):
        one, other = (1, (), ((0,),)), (2, (), ((1, 0),))
        found = told_deed(S, (other, one), 1, ((0, 0), (0,)), 30)
        # Rows have the places of the first world's things, then the second's.
        self.assertEqual(found, ("belonging", ((0, 1, 0), (1, 0, 0))))
        self.assertEqual(told_deed(S, (one, other), 1, ((0,), (0, 0)), 30), ("belonging", ((0, 0, 1), (0, 1, 0))))

    def test_inputs_in_order(self):
        world = (2, (), ((1, 0),))
        found = told_deed(S, (world,), 2, (((0, 0), (0, 0)),), 30)
        self.assertEqual(found, ("belonging", ((0, 0, 1, 1), (0, 1, 0, 1), (1, 0, 1, 0), (1, 1, 0, 0))))

    def test_programs_tables_can_be_told(self):
        seen = 0
        for program in made_programs(73, 120, 60):
            places = len(program[0])
            if places in (1, 2):
                worlds = (WORLD, PAIR) if places == 1 else (PAIR,)
                tables = tuple(table_by(world, places, lambda things: run_by(program, world, things)[0])
                               for world in worlds)
                try:
                    found = self.tell(SHAPE, worlds, places, tables)
                except TooMany:
                    continue
                self.assertEqual(found[0], "program")
                self.assertLessEqual(depth(found[1]), depth(plain(SHAPE, program, 60)))
                seen += 1
        self.assertGreater(seen, 20)

    def test_drawn(self):
        drawer = Drawer(74)
        seen = {"program": 0, "belonging": 0}
        while min(seen.values()) < 40:
            shape = drawer.shape(2, 2)
            places = drawer.chance.choice((1, 2))
            worlds = tuple(drawer.world(shape, 3) for k in range(drawer.chance.randrange(1, 4)))
            tables = tuple(drawer.table(world[0], places) for world in worlds)
            try:
                seen[self.tell(shape, worlds, places, tables)[0]] += 1
            except TooMany:
                continue

    def test_thirty_two_points(self):
        worlds = (ROUND,) * 8
        self.assertEqual(self.tell(S, worlds, 1, ((3, 0, 1, 2),) * 8)[0], "program")
        first = tuple((k,) * 4 for k in range(4))
        self.assertEqual(self.tell(S, (ROUND, ROUND), 2, (first, first))[0], "program")
        self.assertEqual(self.tell(S, (ROUND, ROUND), 2, (first, ((0,) * 4,) * 4))[0], "belonging")

    def test_too_many(self):
        self.assertEqual(told_deed(S, (ROUND,), 1, ((0, 1, 2, 3),), 4)[0], "program")
        self.refuse(3, told_deed, S, (ROUND,), 1, ((0, 1, 2, 3),))
        self.refuse(1, told_deed, S, (ROUND,), 2, (((0,) * 4,) * 4,))

    def test_by_name(self):
        found = told_deed(shape=S, worlds=(ROUND,), places=1, tables=((0, 1, 2, 3),), most=4)
        self.assertEqual(found, ("program", ((("input", 0),), 0)))


class TestWidened(unittest.TestCase):
    def test_shape(self):
        self.assertEqual(wider_shape(S, "d", 2), ((), (("s", 1), ("d", 2))))
        self.assertEqual(wider_shape(SHAPE, "a", 1), (("A", "Bee"), (("s", 1), ("mix", 2), ("a", 1))))
        self.assertEqual(wider_shape(((), ()), "a", 1), ((), (("a", 1),)))
        self.assertTrue(is_shape(wider_shape(SHAPE, "input", 2)))

    def test_world(self):
        self.assertEqual(wider_world(THREE, (0, 0, 0)), (3, (), ((1, 2, 0), (0, 0, 0))))
        self.assertEqual(wider_world(PAIR, ((0, 1), (1, 0))), (2, (1, 0), ((1, 0), ((0, 0), (1, 1)), ((0, 1), (1, 0)))))
        self.assertIs(look_world(wider_shape(SHAPE, "d", 2), wider_world(PAIR, ((0, 1), (1, 0)))), True)
        self.assertIs(look_world(wider_shape(SHAPE, "d", 1), wider_world(PAIR, (0, 1))), True)

    def test_by_name(self):
        self.assertEqual(wider_shape(shape=S, d="d", places=2), ((), (("s", 1), ("d", 2))))
        self.assertEqual(wider_world(world=THREE, table=(0, 0, 0)), (3, (), ((1, 2, 0), (0, 0, 0))))


class TestGained(unittest.TestCase):
    refuse = TestToldDeed.refuse

    def test_small(self):
        world = (4, (), ((1, 0, 3, 2),))
        self.assertEqual(gained(S, ((world, (0,)),), "d", 1, ((2, 1, 2, 3),), 30), [(2,), (3,)])
        self.assertEqual(gained(S, ((world, (1,)),), "d", 1, ((2, 1, 2, 3),), 30), [(2,), (3,)])
        self.assertEqual(gained(S, ((world, (1,)),), "d", 1, ((3, 1, 2, 3),), 30), [(3,), (2,)])
        self.assertEqual(gained(S, ((world, (0,)),), "d", 1, ((0, 1, 2, 3),), 30), [])

    def test_two_places(self):
        shape = (("A",), ())
        world = (4, (0,), ())
        table = ((1, 2, 0, 0), (3, 0, 0, 0), (0, 0, 0, 0), (0, 0, 0, 0))
        self.assertEqual(gained(shape, ((world, ()),), "d", 2, (table,), 30), [(1,), (2,), (3,)])

    def test_a_table_for_each_point(self):
        world = (3, (), ((0, 1, 2),))
        points = ((world, (0,)), (world, (0,)))
        self.assertEqual(gained(S, points, "d", 1, ((1, 2, 2), (2, 2, 1)), 30), [(1, 2), (2, 1), (2, 2)])
        self.assertEqual(gained(S, points, "d", 1, ((2, 2, 1), (1, 2, 2)), 30), [(2, 1), (1, 2), (2, 2)])

    def test_no_own_rows(self):
        self.assertEqual(gained(S, ((THREE, ()),), "d", 1, ((0, 0, 0),), 30), [])

    def test_drawn(self):
        drawer = Drawer(75)
        seen = 0
        for shape, points in small_cases(76, 200):
            places = drawer.chance.choice((1, 2))
            tables = tuple(drawer.table(world[0], places) for world, inputs in points)
            wide = tuple((wider_world(world, table), inputs) for (world, inputs), table in zip(points, tables))
            try:
                wider = [one[0] for one in closing(wider_shape(shape, "more", places), wide, 30)]
            except TooMany:
                self.refuse(30, gained, shape, points, "more", places, tables)
                continue
            rows = [one[0] for one in closing(shape, points, 30)]
            found = gained(shape, points, "more", places, tables, 30)
            self.assertEqual(found.__class__, list)
            self.assertEqual(found, [row for row in wider if row not in rows])
            self.assertEqual(sorted(rows + found), sorted(wider))
            seen += bool(found)
            # Just these can be told with the deed and can't without.
            for row in found:
                self.assertEqual(told(shape, points, row, 30)[0], "belonging")
                self.assertEqual(told(wider_shape(shape, "more", places), wide, row, 30)[0], "program")
        self.assertGreater(seen, 30)

    def test_none_where_the_deed_can_be_told(self):
        drawer = Drawer(77)
        seen = 0
        for program in made_programs(78, 160, 60):
            places = len(program[0])
            if places in (1, 2):
                points = drawer.points(SHAPE, 3, drawer.chance.randrange(4), 2)
                tables = tuple(table_by(world, places, lambda things: run_by(program, world, things)[0])
                               for world, inputs in points)
                self.assertEqual(gained(SHAPE, points, "d", places, tables, 30), [])
                seen += 1
        self.assertGreater(seen, 60)

    def test_rows_of_both_keep_their_forms(self):
        world = wider_world(ROUND, (0, 0, 0, 0))
        shape = wider_shape(S, "d", 1)
        form = told(S, ((ROUND, (0,)),), (3,), 30)[1]
        self.assertEqual(row_of(shape, ((world, (0,)),), form), (3,))

    def test_too_many(self):
        points = ((ROUND, (0,)), (ROUND, (1,)))
        tables = ((0, 0, 2, 2), (1, 1, 3, 3))
        many = 4 + len(gained(S, points, "d", 1, tables, 30))
        self.assertGreater(many, 5)
        self.assertEqual(len(gained(S, points, "d", 1, tables, many)), many - 4)
        self.refuse(many - 1, gained, S, points, "d", 1, tables)
        self.refuse(3, gained, S, points, "d", 1, tables)

    def test_the_list_is_the_askers(self):
        world = (4, (), ((1, 0, 3, 2),))
        found = gained(S, ((world, [0]),), "d", 1, ((2, 1, 2, 3),), 30)
        found.clear()
        self.assertEqual(gained(S, ((world, [0]),), "d", 1, ((2, 1, 2, 3),), 30), [(2,), (3,)])

    def test_by_name(self):
        found = gained(shape=S, points=((THREE, (0,)),), d="d", places=1, tables=((0, 0, 0),), most=30)
        self.assertEqual(found, [])


if __name__ == "__main__":
    unittest.main()
