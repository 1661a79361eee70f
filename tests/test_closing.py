import itertools
import unittest

from drawn import Drawer, all_rows, belongings_by, breach_by, closing_by, own_by, small_cases
from samples import CHAIN, ONE, PAIR, SHAPE, WORLD, made_programs
from shapefree.belongings import breach
from shapefree.closing import closing, told
from shapefree.errors import ShapeError, TooMany
from shapefree.formed import form_of
from shapefree.plain import depth, is_plain_form, plain
from shapefree.points import done_on, row_of

ROUND = ((), (("s", 1),))
ROUND_WORLD = (4, (), ((1, 2, 3, 0),))
# Sums by 4 and by 3, side by side: twelve rows from the row of ones.
SUMS = ((), (("add", 2),))
FOUR = (4, (), (tuple(tuple((x + y) % 4 for y in range(4)) for x in range(4)),))
THREE = (3, (), (tuple(tuple((x + y) % 3 for y in range(3)) for x in range(3)),))
TWELVE = ((FOUR, (1,)), (THREE, (1,)))


def terms_by_depth(shape, inputs, deepest):
    """All plain terms that are no deeper than that."""
    leaves = [("input", k) for k in range(inputs)] + [("fixed", c) for c in shape[0]]
    terms = list(leaves)
    for k in range(deepest):
        terms = leaves + [("do", d, chosen) for d, places in shape[1]
                          for chosen in itertools.product(terms, repeat=places)]
    return terms


class TestClosing(unittest.TestCase):
    def refuse(self, most, asked, *args):
        with self.assertRaises(TooMany) as caught:
            asked(*args, most)
        self.assertEqual(caught.exception.most, most)
        self.assertIsInstance(caught.exception, ShapeError)

    def test_one_place(self):
        self.assertEqual(closing(ROUND, ((ROUND_WORLD, (2,)),), 60), [
            ((2,), 0, ("input", 0)), ((3,), 1, ("do", "s", (0,))), ((0,), 2, ("do", "s", (1,))),
            ((1,), 3, ("do", "s", (2,)))])

    def test_two_places(self):
        told_list = closing(SUMS, TWELVE, 60)
        self.assertEqual(told_list[:4], [((1, 1), 0, ("input", 0)), ((2, 2), 1, ("do", "add", (0, 0))),
                                         ((3, 0), 2, ("do", "add", (0, 1))), ((0, 1), 2, ("do", "add", (1, 1)))])
        self.assertEqual([entry[1] for entry in told_list], [0, 1, 2, 2, 3, 3, 3, 3, 4, 4, 4, 4])
        self.assertEqual(told_list[4], ((1, 2), 3, ("do", "add", (0, 3))))

    def test_the_first_making_counts(self):
        # Both deeds lead to the same things: the first deed, and of it the least numbers.
        shape = (("A",), (("t", 1), ("s", 1), ("mix", 2)))
        world = (3, (0,), ((1, 2, 2), (1, 2, 2), ((1, 2, 2), (2, 2, 2), (2, 2, 2))))
        self.assertEqual(closing(shape, ((world, ()),), 60), [
            ((0,), 0, ("fixed", "A")), ((1,), 1, ("do", "t", (0,))), ((2,), 2, ("do", "t", (1,)))])

    def test_deeds_go_ahead_of_numbers(self):
        shape = (("A", "B"), (("mix", 2), ("s", 1)))
        world = (4, (0, 1), (((0, 0, 0, 0), (0, 3, 0, 0), (0, 0, 0, 0), (0, 0, 0, 0)), (2, 0, 0, 0)))
        self.assertEqual(closing(shape, ((world, ()),), 60)[2:], [
            ((3,), 1, ("do", "mix", (1, 1))), ((2,), 1, ("do", "s", (0,)))])

    def test_own_rows_the_same_twice(self):
        self.assertEqual(closing(SHAPE, ((WORLD, (2, 2, 0)),), 60)[:2], [
            ((2,), 0, ("input", 0)), ((0,), 0, ("input", 2))])
        self.assertEqual(closing(SHAPE, ((ONE, ()),), 60), [((0,), 0, ("fixed", "A"))])
        self.assertEqual(closing(SHAPE, ((ONE, (0, 0, 0)),), 1), [((0,), 0, ("input", 0))])

    def test_no_deeds(self):
        points = (((3, (1, 2), ()), (0, 2, 0)),)
        self.assertEqual(closing((("A", "B"), ()), points, 60), [
            ((0,), 0, ("input", 0)), ((2,), 0, ("input", 1)), ((1,), 0, ("fixed", "A"))])

    def test_no_own_rows(self):
        for most in (1, 60):
            self.assertEqual(closing(ROUND, ((ROUND_WORLD, ()),), most), [])
            self.assertEqual(closing(((), ()), (((2, (), ()), ()), ((1, (), ()), ())), most), [])

    def test_drawn(self):
        layers = 0
        for shape, points in small_cases(34, 150):
            found = closing(shape, points, 30)
            self.assertEqual(found, closing_by(shape, points))
            layers = max(layers, found[-1][1])
        self.assertGreater(layers, 3)

    def test_made_as_it_says(self):
        for shape, points in small_cases(35, 100, 3):
            found = closing(shape, points, 30)
            own = dict((made, row) for row, made in own_by(shape, points))
            for row, layer, made in found:
                if made[0] == "do":
                    self.assertEqual(done_on(shape, points, made[1], [found[k][0] for k in made[2]]), row)
                    self.assertEqual(layer, 1 + max(found[k][1] for k in made[2]))
                else:
                    self.assertEqual((own[made], layer), (row, 0))

    def test_it_lies_in_each_belonging(self):
        drawer = Drawer(36)
        for k in range(30):
            shape = drawer.shape()
            points = drawer.points(shape, 2, k % 3, 3)
            rows = [entry[0] for entry in closing(shape, points, 60)]
            for belonging in belongings_by(shape, points):
                self.assertLessEqual(set(rows), set(belonging))
            self.assertIsNone(breach(shape, points, tuple(sorted(rows))))

    def test_too_many(self):
        self.assertEqual(len(closing(SUMS, TWELVE, 12)), 12)
        for most in range(1, 12):
            self.refuse(most, closing, SUMS, TWELVE)
        for shape, points in small_cases(37, 40, 2):
            many = len(closing(shape, points, 30))
            self.assertEqual(len(closing(shape, points, many)), many)
            self.refuse(many - 1, closing, shape, points)

    def test_too_many_of_layer_nought(self):
        points = ((FOUR, (0, 1, 2)), (THREE, (0, 1, 2)))
        self.refuse(2, closing, SUMS, points)
        self.refuse(1, closing, (("A", "B"), ()), (((2, (0, 1), ()), ()),))
        self.assertEqual(len(closing((("A", "B"), ()), (((2, (0, 1), ()), ()),), 2)), 2)
        self.assertEqual(len(closing((("A", "B"), ()), (((2, (1, 1), ()), (1, 1, 1)),), 1)), 1)

    def test_many_rows(self):
        points = ((FOUR, (1, 0, 0)), (FOUR, (0, 1, 0)), (THREE, (0, 0, 1)))
        self.assertEqual(len(closing(SUMS, points, 60)), 48)
        self.assertEqual(len(closing(SUMS, points, 48)), 48)
        self.refuse(47, closing, SUMS, points)
        self.refuse(60, closing, SUMS, points + ((FOUR, (0, 0, 1)), (THREE, (1, 0, 0)), (FOUR, (1, 1, 1))))

    def test_the_list_is_the_askers(self):
        points = ((WORLD, [0, 1]), (PAIR, [1, 0]))
        first = closing(SHAPE, points, 60)
        copy = list(first)
        first.clear()
        again = closing(SHAPE, points, 60)
        self.assertEqual(again, copy)
        again[0] = None
        self.assertEqual(closing(SHAPE, points, 60), copy)
        self.assertEqual(points, ((WORLD, [0, 1]), (PAIR, [1, 0])))
        self.assertEqual({entry.__class__ for entry in copy}, {tuple})

    def test_by_name(self):
        self.assertEqual(closing(shape=SHAPE, points=((ONE, ()),), most=1), [((0,), 0, ("fixed", "A"))])


class TestTold(unittest.TestCase):
    refuse = TestClosing.refuse

    def tell(self, shape, points, table):
        """What is told of a table, looked at by what must hold of it."""
        found = told(shape, points, table, 60)
        self.assertEqual((found.__class__, len(found)), (tuple, 2))
        if found[0] == "program":
            self.assertIs(is_plain_form(shape, len(points[0][1]), found[1]), True)
            self.assertEqual(row_of(shape, points, found[1]), tuple(table))
        else:
            self.assertEqual((found[0], found[1].__class__), ("belonging", tuple))
            self.assertIsNone(breach(shape, points, found[1]))
            self.assertIsNone(breach_by(shape, points, found[1]))
            self.assertNotIn(tuple(table), found[1])
        return found

    def test_small(self):
        points = ((ROUND_WORLD, (0,)), (ROUND_WORLD, (2,)))
        self.assertEqual(self.tell(ROUND, points, (0, 2)), ("program", ((("input", 0),), 0)))
        self.assertEqual(self.tell(ROUND, points, (2, 0)),
                         ("program", ((("input", 0), ("do", "s", (0,)), ("do", "s", (1,))), 2)))
        self.assertEqual(self.tell(ROUND, points, (0, 1))[0], "belonging")
        self.assertEqual(self.tell(ROUND, ((ROUND_WORLD, ()),), (0,)), ("belonging", ()))

    def test_no_table_is_between(self):
        drawer = Drawer(38)
        seen = {"program": 0, "belonging": 0}
        for shape, points in small_cases(39, 100):
            rows = [entry[0] for entry in closing(shape, points, 60)]
            for table in rows[:8] + [drawer.row(points) for k in range(8)]:
                kind = self.tell(shape, points, table)[0]
                self.assertEqual(kind, "program" if table in rows else "belonging")
                seen[kind] += 1
        self.assertGreater(min(seen.values()), 200)

    def test_the_least_depth(self):
        drawer = Drawer(40)
        depths = {}
        for k in range(60):
            shape = drawer.shape(1, 2)
            points = drawer.points(shape, 1 + k % 3, 1, 3)
            least = {}
            for deepest in range(3):
                for term in terms_by_depth(shape, 1, deepest):
                    least.setdefault(row_of(shape, points, form_of(term)), deepest)
            for table in all_rows(points):
                found = self.tell(shape, points, table)
                if found[0] == "program" and depth(found[1]) < 3:
                    self.assertEqual(depth(found[1]), least.pop(table))
                    depths[depth(found[1])] = depths.get(depth(found[1]), 0) + 1
            self.assertEqual(least, {})
        self.assertGreater(min(depths[k] for k in range(3)), 20)

    def test_layers_tell_the_depth(self):
        for shape, points in small_cases(41, 60, 4):
            for row, layer, made in closing(shape, points, 30):
                self.assertEqual(depth(self.tell(shape, points, row)[1]), layer)

    def test_just_where_in_every_belonging(self):
        drawer = Drawer(42)
        seen = {True: 0, False: 0}
        for k in range(60):
            shape = drawer.shape()
            points = drawer.points(shape, 2, k % 3, 3)
            found = belongings_by(shape, points)
            for table in all_rows(points):
                everywhere = all(table in rows for rows in found)
                self.assertEqual(self.tell(shape, points, table)[0] == "program", everywhere)
                seen[everywhere] += 1
        self.assertGreater(min(seen.values()), 50)

    def test_programs_rows(self):
        points = ((WORLD, (0, 1)), (PAIR, (1, 0)), (ONE, (0, 0)))
        for program in [one for one in made_programs(43, 80, 60) if len(one[0]) == 2]:
            form = plain(SHAPE, program, 60)
            found = self.tell(SHAPE, points, row_of(SHAPE, points, form))
            self.assertEqual(found[0], "program")
            self.assertLessEqual(depth(found[1]), depth(form))

    def test_a_table_in_a_list(self):
        table = [3, 0]
        self.assertEqual(self.tell(SUMS, TWELVE, table), self.tell(SUMS, TWELVE, (3, 0)))
        self.assertEqual(table, [3, 0])
        points = ((CHAIN, (3,)), (CHAIN, (3,)))
        self.assertEqual(self.tell(SHAPE, points, [0, 1]), self.tell(SHAPE, points, (0, 1)))
        self.assertEqual(self.tell(SHAPE, points, [0, 1])[0], "belonging")

    def test_too_many(self):
        self.refuse(11, told, SUMS, TWELVE, (0, 0))
        # The table is the own row, and comes up ahead of all.
        self.refuse(11, told, SUMS, TWELVE, (1, 1))
        self.refuse(1, told, SUMS, TWELVE, [1, 1])
        self.refuse(1, told, (("A", "B"), ()), (((2, (0, 1), ()), ()),), (0,))
        self.assertEqual(told(SUMS, TWELVE, (1, 1), 12)[0], "program")

    def test_by_name(self):
        self.assertEqual(told(shape=SHAPE, points=((ONE, ()),), table=(0,), most=1),
                         ("program", ((("fixed", "A"),), 0)))


if __name__ == "__main__":
    unittest.main()
