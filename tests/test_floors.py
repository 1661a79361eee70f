import itertools
import unittest

from drawn import Drawer, all_rows, breach_by, deed_row, own_by, small_cases
from samples import ONE, PAIR, SHAPE, WORLD, made_programs
from shapefree.closing import closing
from shapefree.errors import TooMany
from shapefree.fewest import fewest
from shapefree.floors import floors_hold, floors_of
from shapefree.plain import deeds, plain
from shapefree.points import row_of

S = ((), (("s", 1),))
ROUND = (4, (), ((1, 2, 3, 0),))
POINTS = ((ROUND, (0,)),)
RIGHT = (((0,), 0), ((1,), 1), ((2,), 2), ((3,), 3))


def hold_by(shape, points, floors):
    """Whether floors hold, as the document words it."""
    if list(floors) != sorted(floors) or len({row for row, many in floors}) != len(floors):
        return False
    numbers = dict(floors)
    if min(numbers.values(), default=0) < 0 or breach_by(shape, points, tuple(numbers)) is not None:
        return False
    if any(numbers[row] for row, made in own_by(shape, points)):
        return False
    return all(numbers[deed_row(shape, points, d, chosen)] <= 1 + sum(numbers[row] for row in chosen)
               for d, places in shape[1] for chosen in itertools.product(numbers, repeat=places))


class TestFloorsOf(unittest.TestCase):
    def test_small(self):
        self.assertEqual(floors_of(S, POINTS, 30), RIGHT)
        self.assertEqual(floors_of(S, ((ROUND, (3,)),), 4), (((0,), 1), ((1,), 2), ((2,), 3), ((3,), 0)))
        self.assertEqual(floors_of(SHAPE, ((ONE, (0,)),), 1), (((0,), 0),))

    def test_no_own_rows(self):
        self.assertEqual(floors_of(S, ((ROUND, ()),), 30), ())

    def test_they_hold_and_are_the_fewest(self):
        for shape, points in small_cases(49, 150):
            floors = floors_of(shape, points, 30)
            self.assertIs(floors_hold(shape, points, floors), True)
            self.assertTrue(hold_by(shape, points, floors))
            rows = [entry[0] for entry in closing(shape, points, 30)]
            self.assertEqual(floors, tuple(sorted(zip(rows, fewest(shape, points, 30)))))
            self.assertEqual({pair.__class__ for pair in floors}, {tuple})

    def test_no_program_falls_below(self):
        points = ((WORLD, (0, 1)), (PAIR, (1, 0)), (ONE, (0, 0)))
        floors = dict(floors_of(SHAPE, points, 30))
        for program in [one for one in made_programs(50, 80, 60) if len(one[0]) == 2]:
            form = plain(SHAPE, program, 60)
            self.assertGreaterEqual(deeds(form), floors[row_of(SHAPE, points, form)])

    def test_too_many(self):
        with self.assertRaises(TooMany) as caught:
            floors_of(S, POINTS, 3)
        self.assertEqual(caught.exception.most, 3)
        with self.assertRaises(TooMany) as caught:
            floors_of((("A", "B"), ()), (((2, (0, 1), ()), ()),), 1)
        self.assertEqual(caught.exception.most, 1)

    def test_by_name(self):
        self.assertEqual(floors_of(shape=S, points=POINTS, most=4), RIGHT)


class TestFloorsHold(unittest.TestCase):
    def check(self, told, *floors):
        self.assertIs(floors_hold(S, POINTS, floors), told, floors)

    def test_right(self):
        self.check(True, *RIGHT)

    def test_raised(self):
        self.check(False, ((0,), 0), ((1,), 2), ((2,), 2), ((3,), 3))
        self.check(False, ((0,), 0), ((1,), 1), ((2,), 2), ((3,), 4))
        self.check(False, ((0,), 0), ((1,), 1), ((2,), 3), ((3,), 4))

    def test_an_own_row_above_nought(self):
        self.check(False, ((0,), 1), ((1,), 1), ((2,), 2), ((3,), 3))
        self.check(False, ((0,), 1), ((1,), 0), ((2,), 0), ((3,), 0))

    def test_lower_floors_hold(self):
        self.check(True, ((0,), 0), ((1,), 0), ((2,), 0), ((3,), 0))
        self.check(True, ((0,), 0), ((1,), 1), ((2,), 2), ((3,), 0))
        self.check(True, ((0,), 0), ((1,), 0), ((2,), 1), ((3,), 2))

    def test_lowered_so_that_others_are_too_high(self):
        self.check(False, ((0,), 0), ((1,), 0), ((2,), 2), ((3,), 3))
        self.check(False, ((0,), 0), ((1,), 1), ((2,), 1), ((3,), 3))

    def test_below_nought(self):
        self.check(False, ((0,), 0), ((1,), 1), ((2,), 2), ((3,), -1))
        self.check(False, ((0,), -1), ((1,), 0), ((2,), 1), ((3,), 2))

    def test_rows_amiss(self):
        self.check(False, *RIGHT[:3])
        self.check(False, *RIGHT[1:])
        self.check(False, *RIGHT[:2] + RIGHT[3:])
        self.check(False, *RIGHT + RIGHT[3:])
        self.check(False, RIGHT[1], RIGHT[0], RIGHT[2], RIGHT[3])
        self.check(False, *RIGHT[::-1])
        self.check(False, RIGHT[0], ((1,), 0), *RIGHT[1:])
        self.check(False, RIGHT[0], RIGHT[1], ((1,), 2), *RIGHT[2:])

    def test_none_at_all(self):
        self.check(False)
        self.assertIs(floors_hold(S, ((ROUND, ()),), ()), True)
        self.assertIs(floors_hold(S, ((ROUND, ()),), (((0,), 0),)), False)

    def test_rows_that_no_program_has(self):
        world = (4, (), ((1, 0, 3, 2),))
        points = ((world, (0,)),)
        self.assertIs(floors_hold(S, points, (((0,), 0), ((1,), 1))), True)
        self.assertIs(floors_hold(S, points, (((0,), 0), ((1,), 1), ((2,), 7), ((3,), 8))), True)
        self.assertIs(floors_hold(S, points, (((0,), 0), ((1,), 1), ((2,), 7), ((3,), 9))), False)
        self.assertIs(floors_hold(S, points, (((0,), 0), ((1,), 1), ((2,), 7))), False)

    def test_a_row_used_twice_is_added_twice(self):
        shape = (("A",), (("twice", 2),))
        world = (3, (0,), (((1, 0, 0), (0, 2, 0), (0, 0, 0)),))
        points = ((world, ()),)
        self.assertEqual(floors_of(shape, points, 30), (((0,), 0), ((1,), 1), ((2,), 3)))
        self.assertIs(floors_hold(shape, points, (((0,), 0), ((1,), 1), ((2,), 3))), True)
        self.assertIs(floors_hold(shape, points, (((0,), 0), ((1,), 1), ((2,), 4))), False)

    def test_drawn(self):
        drawer = Drawer(51)
        seen = {True: 0, False: 0}
        for shape, points in small_cases(52, 400, 2, 12):
            floors = [list(pair) for pair in floors_of(shape, points, 30)]
            if drawer.chance.randrange(3):
                rows = [row for row in all_rows(points)]
                at = drawer.chance.randrange(len(floors))
                floors[at] = drawer.chance.choice((
                    [floors[at][0], floors[at][1] - 1], [floors[at][0], floors[at][1] + 1], [floors[at][0], 0],
                    [drawer.chance.choice(rows), floors[at][1]]))
            if not drawer.chance.randrange(6):
                floors.pop(drawer.chance.randrange(len(floors)))
            handed = tuple(tuple(pair) for pair in floors)
            told = floors_hold(shape, points, handed)
            self.assertIs(told, hold_by(shape, points, handed))
            seen[told] += 1
        self.assertGreater(min(seen.values()), 100)

    def test_the_number_counts_for_all_rows(self):
        points = ((WORLD, [0]), (PAIR, [1]))
        floors = floors_of(SHAPE, points, 30)
        self.assertIs(floors_hold(SHAPE, points, floors), True)
        for k, (row, many) in enumerate(floors):
            raised = floors[:k] + ((row, many + 1),) + floors[k + 1:]
            self.assertIs(floors_hold(SHAPE, points, raised), False)
        self.assertEqual(points, ((WORLD, [0]), (PAIR, [1])))

    def test_by_name(self):
        self.assertIs(floors_hold(shape=S, points=POINTS, floors=RIGHT), True)


if __name__ == "__main__":
    unittest.main()
