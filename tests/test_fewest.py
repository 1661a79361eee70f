import itertools
import unittest

from drawn import Drawer, deed_row, own_by, small_cases
from samples import ONE, PAIR, SHAPE, WORLD, made_programs
from shapefree.belongings import breach
from shapefree.closing import closing, told
from shapefree.errors import TooMany
from shapefree.fewest import fewest, fewest_of
from shapefree.formed import form_of
from shapefree.plain import deeds, depth, is_plain_form, plain
from shapefree.points import row_of

# (0, 0) is told in three layers by six deeds, and by five deeds in four.
UNLIKE = ((), (("s", 2),))
UNLIKE_POINTS = (((4, (), (((0, 3, 0, 0), (2, 2, 3, 3), (3, 1, 0, 2), (3, 1, 1, 3)),)), (1,)),
                 ((4, (), (((1, 1, 2, 0), (1, 1, 0, 3), (2, 2, 1, 0), (0, 2, 3, 3)),)), (2,)))

# Points at which fewer deeds of one row let others have fewer, those that stand ahead in the closing too.
AGAIN = (
    (((3, (), (((2, 0, 1), (2, 0, 2), (1, 1, 2)),)), (1,)), ((2, (), (((1, 0), (1, 1)),)), (0,))),
    (((2, (), (((1, 0), (1, 1)),)), (0,)), ((3, (), (((2, 0, 0), (0, 0, 0), (2, 0, 1)),)), (0,))),
    (((4, (), (((1, 1, 1, 0), (0, 2, 1, 3), (1, 3, 0, 1), (0, 2, 1, 3)),)), (1,)), ((2, (), (((1, 0), (1, 0)),)), (1,))),
    (((3, (), (((2, 0, 2), (1, 1, 2), (1, 1, 0)),)), (0,)),
     ((4, (), (((1, 0, 0, 3), (2, 3, 2, 0), (3, 3, 3, 3), (3, 2, 2, 3)),)), (1,))),
)


def terms_by_deeds(shape, inputs, many):
    """A list of lists: all plain terms of no deeds, of one, and so on up to many."""
    found = [[("input", k) for k in range(inputs)] + [("fixed", c) for c in shape[0]]]
    for total in range(1, many + 1):
        terms = []
        for d, places in shape[1]:
            for counts in itertools.product(range(total), repeat=places):
                if sum(counts) == total - 1:
                    terms += [("do", d, chosen) for chosen in itertools.product(*[found[k] for k in counts])]
        found.append(terms)
    return found


def rows_by_deeds(shape, points, rows):
    """The least number of deeds of each row, going through all numbers from 0 on till each row has come."""
    found = [{row for row, made in own_by(shape, points)}]
    least = {row: 0 for row in found[0]}
    while len(least) < len(rows):
        total = len(found)
        coming = set()
        for d, places in shape[1]:
            for counts in itertools.product(range(total), repeat=places):
                if sum(counts) == total - 1:
                    for chosen in itertools.product(*[found[k] for k in counts]):
                        coming.add(deed_row(shape, points, d, chosen))
        found.append(coming)
        for row in coming:
            least.setdefault(row, total)
    return least


class TestFewest(unittest.TestCase):
    def refuse(self, most, asked, *args):
        with self.assertRaises(TooMany) as caught:
            asked(*args, most)
        self.assertEqual(caught.exception.most, most)

    def tell(self, shape, points, row):
        """What is told of a row of the closing, looked at by what must hold of it: how many deeds."""
        found = fewest_of(shape, points, row, 30)
        self.assertEqual((found.__class__, len(found), found[0]), (tuple, 3, "program"))
        self.assertIs(is_plain_form(shape, len(points[0][1]), found[2]), True)
        self.assertEqual(row_of(shape, points, found[2]), tuple(row))
        self.assertEqual(deeds(found[2]), found[1])
        return found[1]

    def test_small(self):
        shape, world = ((), (("s", 1),)), (4, (), ((1, 2, 3, 0),))
        self.assertEqual(fewest(shape, ((world, (2,)),), 30), [0, 1, 2, 3])
        self.assertEqual(fewest_of(shape, ((world, (2,)),), (0,), 30),
                         ("program", 2, ((("input", 0), ("do", "s", (0,)), ("do", "s", (1,))), 2)))
        self.assertEqual(fewest(SHAPE, ((ONE, (0, 0)),), 30), [0])

    def test_each_use_counts(self):
        # Doubled, one is two, two is nought: the inner deed is there twice when all is written out.
        shape = ((), (("add", 2),))
        world = (4, (), (tuple(tuple((x + y) % 4 for y in range(4)) for x in range(4)),))
        self.assertEqual(fewest(shape, ((world, (1,)),), 30), [0, 1, 2, 3])
        shape = (("A",), (("twice", 2),))
        world = (4, (0,), (((1, 0, 0, 0), (0, 2, 0, 0), (0, 0, 3, 0), (0, 0, 0, 0)),))
        self.assertEqual(fewest(shape, ((world, ()),), 30), [0, 1, 3, 7])

    def test_all_terms_tried_out(self):
        drawer = Drawer(44)
        seen = {}
        for k in range(150):
            shape = drawer.shape(1, 2)
            points = drawer.points(shape, 1 + k % 2, 1)
            least = {}
            for many, terms in enumerate(terms_by_deeds(shape, 1, 3)):
                for term in terms:
                    least.setdefault(row_of(shape, points, form_of(term)), many)
            for entry, many in zip(closing(shape, points, 30), fewest(shape, points, 30)):
                if many < 4:
                    self.assertEqual(least.pop(entry[0]), many)
                    seen[many] = seen.get(many, 0) + 1
            self.assertEqual(least, {})
        self.assertGreater(min(seen[k] for k in range(4)), 10)

    def test_all_numbers_tried_out(self):
        greatest = 0
        for shape, points in small_cases(45, 120, 5, 30):
            rows = [entry[0] for entry in closing(shape, points, 30)]
            found = fewest(shape, points, 30)
            self.assertEqual(found.__class__, list)
            greatest = max(greatest, max(found))
            least = rows_by_deeds(shape, points, rows)
            self.assertEqual(found, [least[row] for row in rows])
            for row in rows:
                self.assertEqual(self.tell(shape, points, row), least[row])
        self.assertGreater(greatest, 4)

    def test_unlike_the_least_depth(self):
        rows = [entry[0] for entry in closing(UNLIKE, UNLIKE_POINTS, 30)]
        self.assertEqual(fewest(UNLIKE, UNLIKE_POINTS, 30)[rows.index((0, 0))], 5)
        shallow = told(UNLIKE, UNLIKE_POINTS, (0, 0), 30)[1]
        self.assertEqual((depth(shallow), self.tell(UNLIKE, UNLIKE_POINTS, (0, 0))), (3, 5))
        self.assertGreater(deeds(shallow), 5)
        self.assertEqual(depth(fewest_of(UNLIKE, UNLIKE_POINTS, (0, 0), 30)[2]), 4)
        self.assertEqual(rows_by_deeds(UNLIKE, UNLIKE_POINTS, rows)[(0, 0)], 5)

    def test_fewer_again_and_again(self):
        for points in AGAIN:
            rows = [entry[0] for entry in closing(UNLIKE, points, 30)]
            least = rows_by_deeds(UNLIKE, points, rows)
            self.assertEqual(fewest(UNLIKE, points, 30), [least[row] for row in rows])
            for row in rows:
                self.assertEqual(self.tell(UNLIKE, points, row), least[row])

    def test_no_program_has_fewer(self):
        points = ((WORLD, (0, 1)), (PAIR, (1, 0)), (ONE, (0, 0)))
        for program in [one for one in made_programs(46, 80, 60) if len(one[0]) == 2]:
            form = plain(SHAPE, program, 60)
            self.assertLessEqual(self.tell(SHAPE, points, row_of(SHAPE, points, form)), deeds(form))

    def test_belongings(self):
        shape, world = ((), (("s", 1),)), (4, (), ((1, 0, 3, 2),))
        self.assertEqual(fewest_of(shape, ((world, (0,)),), (2,), 30), ("belonging", ((0,), (1,))))
        self.assertEqual(fewest_of(shape, ((world, ()),), (2,), 30), ("belonging", ()))
        drawer = Drawer(47)
        for shape, points in small_cases(48, 60):
            table = drawer.row(points)
            found = fewest_of(shape, points, table, 30)
            if found[0] == "belonging":
                self.assertEqual((found.__class__, len(found), found[1].__class__), (tuple, 2, tuple))
                self.assertIsNone(breach(shape, points, found[1]))
                self.assertNotIn(table, found[1])
            self.assertEqual(found[0], told(shape, points, table, 30)[0])

    def test_no_own_rows(self):
        self.assertEqual(fewest(((), (("s", 1),)), (((2, (), ((1, 0),)), ()),), 1), [])

    def test_a_table_in_a_list(self):
        table = [0, 0]
        self.assertEqual(fewest_of(UNLIKE, UNLIKE_POINTS, table, 30), fewest_of(UNLIKE, UNLIKE_POINTS, (0, 0), 30))
        self.assertEqual(table, [0, 0])
        self.assertEqual(fewest_of(SHAPE, ((ONE, [0]),), [0], 1), ("program", 0, ((("input", 0),), 0)))

    def test_too_many(self):
        many = len(closing(UNLIKE, UNLIKE_POINTS, 30))
        self.assertEqual(len(fewest(UNLIKE, UNLIKE_POINTS, many)), many)
        self.refuse(many - 1, fewest, UNLIKE, UNLIKE_POINTS)
        self.refuse(many - 1, fewest_of, UNLIKE, UNLIKE_POINTS, (0, 0))
        # The table is the own row, and comes up ahead of all.
        self.refuse(1, fewest_of, UNLIKE, UNLIKE_POINTS, (1, 2))
        self.refuse(1, fewest, (("A", "B"), ()), (((2, (0, 1), ()), ()),))
        self.refuse(1, fewest_of, (("A", "B"), ()), (((2, (0, 1), ()), ()),), (0,))

    def test_the_list_is_the_askers(self):
        first = fewest(UNLIKE, UNLIKE_POINTS, 30)
        copy = list(first)
        first.reverse()
        self.assertEqual(fewest(UNLIKE, UNLIKE_POINTS, 30), copy)
        self.assertEqual(fewest_of(UNLIKE, UNLIKE_POINTS, (0, 0), 30)[1], 5)

    def test_by_name(self):
        self.assertEqual(fewest(shape=SHAPE, points=((ONE, ()),), most=1), [0])
        self.assertEqual(fewest_of(shape=SHAPE, points=((ONE, ()),), table=(0,), most=1),
                         ("program", 0, ((("fixed", "A"),), 0)))


if __name__ == "__main__":
    unittest.main()
