import itertools
import unittest

from samples import A, IN, IN_ONE, SHAPE, form, made_programs, mix, s
from shapefree.alike import laid, parts_at
from shapefree.errors import TooLong
from shapefree.formed import program_of
from shapefree.least import least_part
from shapefree.plain import plain, value
from shapefree.reader import read_program
from shapefree.worlds import look_world

MIX = ((), (("mix", 2),))
UNARY = ((), (("s", 1),))
UNARY_TWO = (("A",), (("s", 1), ("t", 1)))


def all_tables(places, n):
    things = itertools.product(range(n), repeat=n)
    return list(things) if places == 1 else list(itertools.product(list(things), repeat=n))


def all_worlds(shape, n):
    tables = [all_tables(places, n) for d, places in shape[1]]
    for things in itertools.product(range(n), repeat=len(shape[0])):
        for chosen in itertools.product(*tables):
            yield (n, things, chosen)


def used_shape(shape, *forms):
    """The shape without what stands in none of the forms: it can't part them."""
    there = [node[1] for one in forms for node in one[0]]
    return (tuple(c for c in shape[0] if c in there), tuple(deed for deed in shape[1] if deed[0] in there))


def is_parted_by(shape, one, other, inputs, n):
    """Whether any world of n things parts two forms, all tried out one by one."""
    shape = used_shape(shape, one, other)
    for world in all_worlds(shape, n):
        for things in itertools.product(range(n), repeat=inputs):
            if value(shape, one, world, things) != value(shape, other, world, things):
                return True
    return False


class TestLeastPart(unittest.TestCase):
    def part(self, shape, one, other, most=60):
        told = least_part(shape, one, other, most)
        self.assertEqual((told.__class__, len(told)), (tuple, 2))
        world, inputs = told
        self.assertIs(look_world(shape, world), True)
        self.assertEqual((inputs.__class__, len(inputs)), (tuple, len(one[0])))
        self.assertTrue(all(0 <= thing < world[0] for thing in inputs))
        self.assertIs(parts_at(shape, one, other, world, inputs, most), True)
        return world[0]

    def check(self, shape, one, other, n):
        """Two texts' terms part in n things, and in no fewer."""
        programs = [read_program("inputs x y\ntell " + text) for text in (one, other)]
        forms = [plain(shape, program, 60) for program in programs]
        self.assertEqual(self.part(shape, *programs), n, (one, other))
        self.assertEqual(self.part(shape, *programs[::-1]), n)
        for fewer in range(1, n):
            self.assertIs(is_parted_by(shape, *forms, 2, fewer), False)

    def test_alike(self):
        one = read_program("inputs x\ntell (s (s x))")
        other = read_program("inputs y\ntell (loop #i 2 x y (s x))")
        self.assertIsNone(least_part(SHAPE, one, other, 9))
        self.assertIsNone(least_part(SHAPE, one, one, 9))

    def test_two(self):
        self.check(SHAPE, "x", "y", 2)
        self.check(SHAPE, "A", "Bee", 2)
        self.check(SHAPE, "x", "(s (s (s x)))", 2)
        self.check(SHAPE, "(s x)", "(mix x x)", 2)
        self.check(SHAPE, "(mix x y)", "(mix y x)", 2)
        self.check(SHAPE, "(mix (mix x y) x)", "(mix x (mix y x))", 2)
        self.check(SHAPE, "(loop #i 5 z x (s z))", "(loop #i 4 z x (s z))", 2)

    def test_three(self):
        self.check(UNARY, "(s x)", "(s (s (s x)))", 3)
        self.check(UNARY, "(s (s x))", "(s (s (s (s x))))", 3)
        self.check(UNARY, "(loop #i 2 z x (s z))", "(loop #i 6 z x (s z))", 3)
        self.check(UNARY_TWO, "(s A)", "(s (s (s A)))", 3)
        self.check(UNARY_TWO, "(loop #i 4 z A (t (s z)))", "(loop #i 2 z A (t (s z)))", 3)
        self.check(MIX, "(let z (mix x x) (mix z z))", "(loop #i 4 z x (mix z z))", 3)

    def test_more(self):
        self.check(UNARY, "(loop #i 2 z x (s z))", "(loop #i 8 z x (s z))", 4)
        self.check(UNARY, "(loop #i 3 z x (s z))", "(loop #i 9 z x (s z))", 4)
        self.check(UNARY, "(loop #i 3 z x (s z))", "(loop #i 15 z x (s z))", 5)

    def test_made_programs(self):
        programs = made_programs(16, 100, 20, 3)
        forms = [plain(SHAPE, program, 20) for program in programs]
        checked = 0
        for k in range(len(programs) - 4):
            pair = forms[k], forms[k + 4]
            if pair[0] == pair[1] or len(laid(pair)[0]) > 10:
                continue
            n = self.part(SHAPE, programs[k], programs[k + 4])
            self.assertIn(n, (2, 3))
            for fewer in range(1, n):
                self.assertIs(is_parted_by(SHAPE, *pair, len(programs[k][0]), fewer), False)
            checked += 1
        self.assertGreater(checked, 40)

    def test_all_small_pairs(self):
        forms = [form(IN), form(IN_ONE), form(A), form(IN, s(0)), form(IN, mix(0, 0)), form(IN, IN_ONE, mix(0, 1)),
                 form(IN_ONE, IN, mix(0, 1)), form(IN, s(0), mix(0, 1)), form(IN, s(0), s(1)), form(A, s(0), mix(1, 0)),
                 form(IN, s(0), s(1), s(2)), form(IN, mix(0, 0), s(1)), form(IN, mix(0, 0), mix(1, 1))]
        for one, other in itertools.permutations(forms, 2):
            n = self.part(SHAPE, program_of(one, 2), program_of(other, 2))
            self.assertEqual(n == 2, is_parted_by(SHAPE, one, other, 2, 2), (one, other))
            self.assertLessEqual(n, 3)

    def test_too_long(self):
        short = read_program("inputs x\ntell (s x)")
        long = read_program("inputs x\ntell (loop #i 3 y x (pick #i y y (s y)))")
        for one, other in ((short, long), (long, short), (long, long)):
            self.assertIsNone(least_part(SHAPE, one, other, 4))
            with self.assertRaises(TooLong) as caught:
                least_part(SHAPE, one, other, 3)
            self.assertEqual((caught.exception.__class__, caught.exception.most), (TooLong, 3))

    def test_the_same_again(self):
        one, other = read_program("inputs x\ntell (s x)"), read_program("inputs x\ntell (mix x x)")
        told = least_part(SHAPE, one, other, 9)
        least_part(UNARY, read_program("inputs x\ntell x"), one, 9)
        self.assertEqual(least_part(SHAPE, one, other, 9), told)

    def test_by_name(self):
        one = read_program("inputs x\ntell (s x)")
        self.assertIsNone(least_part(shape=SHAPE, one=one, other=one, most=1))


if __name__ == "__main__":
    unittest.main()
