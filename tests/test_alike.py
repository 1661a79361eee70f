import itertools
import unittest

from samples import (
    A, BEE, CHAIN, IN, IN_ONE, ONE, PAIR, RUNS, SHAPE, WORLD, WORLDS, form, form_written_out, made_programs, mix,
    run_by, s,
)
from shapefree.alike import alike, laid, parts_at
from shapefree.errors import TooLong
from shapefree.formed import program_of
from shapefree.plain import plain
from shapefree.reader import read_program
from shapefree.worlds import look_world

# Programs with one plain form, row by row.
SAME = (
    ("inputs x\ntell (s (s x))", "inputs y\ntell (loop #i 2 y y (s y))",
     "inputs x\ndef f a = (s a)\ntell (call f (call f x))",
     "inputs q\ntell (let x (s q) (let y (mix q q) (s x)))", "inputs x\ntell (pick 3 A (s (s x)))"),
    ("inputs\ntell A", "inputs\ntell (let x Bee A)", "inputs\ntell (loop #i 3 x Bee (pick #i x A))"),
    ("inputs x y\ntell (mix (mix y x) (mix y x))", "inputs y x\ntell (let z (mix x y) (mix z z))",
     "inputs a b\ntell (loop #i 1 z (mix b a) (mix z z))"),
    ("inputs x y z\ntell z", "inputs z y x\ntell x"),
)

# Pairs that part.
UNLIKE = (
    ("inputs\ntell A", "inputs\ntell Bee"),
    ("inputs\ntell A", "inputs\ntell (s A)"),
    ("inputs x\ntell x", "inputs x\ntell A"),
    ("inputs x y\ntell x", "inputs x y\ntell y"),
    ("inputs x\ntell (s x)", "inputs x\ntell (mix x x)"),
    ("inputs x\ntell (s x)", "inputs x\ntell (s (s x))"),
    ("inputs x y\ntell (mix x y)", "inputs x y\ntell (mix y x)"),
    ("inputs x\ntell (loop #i 9 y x (s y))", "inputs x\ntell (loop #i 7 y x (s y))"),
    ("inputs x y z\ntell (mix (mix x y) z)", "inputs x y z\ntell (mix x (mix y z))"),
    ("inputs x y z\ntell (s z)", "inputs z y x\ntell (s z)"),
    ("inputs x\ntell (mix x (s x))", "inputs x\ntell (mix x (s (s (s x))))"),
)


def unlike_nodes(*forms):
    """The common nodes, told by what they are written out, in the order in which they come."""
    told = []
    for nodes, top in forms:
        for k in range(len(nodes)):
            term = form_written_out((nodes, k))
            if term not in told:
                told.append(term)
    return told


class TestLaid(unittest.TestCase):
    def test_one_form(self):
        sample = form(IN, s(0), A, mix(1, 2))
        self.assertEqual(laid((sample,)), (sample[0], (3,)))

    def test_the_same_form_twice(self):
        sample = form(IN, s(0), A, mix(1, 2))
        self.assertEqual(laid([sample, sample]), (sample[0], (3, 3)))

    def test_nodes_in_common(self):
        one = form(IN, s(0))
        other = form(A, IN, s(1), mix(0, 2))
        self.assertEqual(laid((one, other)), ((IN, s(0), A, mix(2, 1)), (1, 3)))
        self.assertEqual(laid((other, one)), ((A, IN, s(1), mix(0, 2)), (3, 2)))
        self.assertEqual(laid((one, other, form(BEE, s(0)), one)),
                         ((IN, s(0), A, mix(2, 1), BEE, s(4)), (1, 3, 5, 1)))

    def test_nothing_in_common(self):
        self.assertEqual(laid((form(IN), form(A), form(IN_ONE))), ((IN, A, IN_ONE), (0, 1, 2)))
        self.assertEqual(laid((form(IN, s(0)), form(A, s(0), s(1)))), ((IN, s(0), A, s(2), s(3)), (1, 4)))

    def test_by_what_is_written_out(self):
        forms = [plain(SHAPE, program, 60) for program in made_programs(12, 60, 60)]
        for k in range(0, len(forms) - 3):
            some = forms[k:k + 1 + k % 4]
            nodes, tops = laid(some)
            written = [form_written_out((nodes, j)) for j in range(len(nodes))]
            self.assertEqual(written, unlike_nodes(*some))
            self.assertEqual([written[top] for top in tops], [form_written_out(one) for one in some])
            self.assertIs(tops.__class__, tuple)

    def test_what_is_handed_in_stays(self):
        forms = [form(IN, s(0)), form(A)]
        first = laid(forms)
        self.assertEqual(forms, [form(IN, s(0)), form(A)])
        self.assertEqual(laid(tuple(forms)), first)

    def test_by_name(self):
        self.assertEqual(laid(forms=(form(A),)), ((A,), (0,)))


class TestAlike(unittest.TestCase):
    def part(self, shape, one, other, most=60):
        told = alike(shape, one, other, most)
        self.assertEqual((told.__class__, len(told), told[0]), (tuple, 3, "part"), (one, other))
        world, inputs = told[1:]
        self.assertIs(look_world(shape, world), True)
        self.assertEqual((inputs.__class__, len(inputs)), (tuple, len(one[0])))
        self.assertTrue(all(0 <= thing < world[0] for thing in inputs))
        self.assertIs(parts_at(shape, one, other, world, inputs, most), True, (one, other))
        forms = plain(shape, one, most), plain(shape, other, most)
        self.assertLessEqual(world[0], len(unlike_nodes(*forms)))
        return world, inputs

    def test_alike(self):
        for texts in SAME:
            for one, other in itertools.product(map(read_program, texts), repeat=2):
                self.assertEqual(alike(SHAPE, one, other, 60), ("alike", plain(SHAPE, one, 60)))

    def test_part(self):
        for texts in UNLIKE:
            one, other = map(read_program, texts)
            world, inputs = self.part(SHAPE, one, other)
            self.assertNotEqual(run_by(one, world, inputs)[0], run_by(other, world, inputs)[0])
            self.part(SHAPE, other, one)
            self.assertEqual(alike(SHAPE, one, one, 60)[0], "alike")

    def test_made_programs(self):
        programs = made_programs(13, 160, 40)
        for one, other in zip(programs, programs[4:]):
            if plain(SHAPE, one, 40) == plain(SHAPE, other, 40):
                self.assertEqual(alike(SHAPE, one, other, 40)[0], "alike")
            else:
                self.part(SHAPE, one, other, 40)

    def test_alike_in_all_worlds(self):
        programs = made_programs(14, 60, 40)
        for one in programs:
            other = program_of(plain(SHAPE, one, 40), len(one[0]))
            self.assertEqual(alike(SHAPE, one, other, 40), ("alike", plain(SHAPE, one, 40)))
            for world in WORLDS:
                for inputs in itertools.product(range(world[0]), repeat=len(one[0])):
                    self.assertIs(parts_at(SHAPE, one, other, world, inputs, 40), False)

    def test_other_shapes(self):
        no_fixed = ((), (("d", 2), ("e", 1), ("f", 2)))
        self.part(no_fixed, read_program("inputs x\ntell x"), read_program("inputs x\ntell (e x)"))
        self.part(no_fixed, read_program("inputs x y\ntell x"), read_program("inputs x y\ntell y"))
        self.part(no_fixed, read_program("inputs x y\ntell (d x y)"), read_program("inputs x y\ntell (f x y)"))
        no_deeds = (("A", "B", "C"), ())
        self.part(no_deeds, read_program("inputs\ntell A"), read_program("inputs\ntell C"))
        self.part(no_deeds, read_program("inputs x\ntell x"), read_program("inputs x\ntell B"))

    def test_too_long(self):
        short = read_program("inputs x\ntell (s x)")
        long = read_program("inputs x\ntell (loop #i 3 y x y)")
        for one, other in ((short, long), (long, short), (long, long)):
            self.assertIn(alike(SHAPE, one, other, 3)[0], ("alike", "part"))
            with self.assertRaises(TooLong) as caught:
                alike(SHAPE, one, other, 2)
            self.assertEqual((caught.exception.__class__, caught.exception.most), (TooLong, 2))

    def test_great_programs(self):
        one = program_of(plain(SHAPE, read_program("inputs x\ntell (loop #i 300 y x (mix y y))"), 2000), 1)
        other = program_of(plain(SHAPE, read_program("inputs x\ntell (loop #i 300 y x (mix y x))"), 2000), 1)
        self.assertEqual(alike(SHAPE, one, one, 300)[0], "alike")
        told = alike(SHAPE, one, other, 300)
        self.assertIs(parts_at(SHAPE, one, other, told[1], told[2], 300), True)

    def test_the_same_again(self):
        one, other = map(read_program, UNLIKE[4])
        told = alike(SHAPE, one, other, 9)
        alike(SHAPE, *map(read_program, UNLIKE[8]), 9)
        self.assertEqual(alike(SHAPE, one, other, 9), told)

    def test_by_name(self):
        one, other = map(read_program, UNLIKE[0])
        self.assertEqual(alike(shape=SHAPE, one=one, other=one, most=1), ("alike", form(A)))
        self.assertEqual(alike(shape=SHAPE, one=one, other=other, most=1)[0], "part")


class TestPartsAt(unittest.TestCase):
    def test_small(self):
        one, other = read_program("inputs x\ntell x"), read_program("inputs x\ntell (s x)")
        self.assertIs(parts_at(SHAPE, one, other, WORLD, (0,), 5), True)
        self.assertIs(parts_at(SHAPE, one, other, ONE, (0,), 5), False)
        self.assertIs(parts_at(SHAPE, one, other, CHAIN, (2,), 5), True)
        self.assertIs(parts_at(SHAPE, one, other, CHAIN, (3,), 5), False)

    def test_made_programs(self):
        programs = made_programs(15, 60, 40)
        for one, other in zip(programs, programs[4:]):
            for world in WORLDS:
                for inputs in itertools.product(range(world[0]), repeat=len(one[0])):
                    told = run_by(one, world, inputs)[0] != run_by(other, world, inputs)[0]
                    self.assertIs(parts_at(SHAPE, one, other, world, inputs, 40), told)

    def test_turns_are_not_looked_at(self):
        one, other = read_program("inputs x\ntell x"), read_program("inputs x\ntell (loop #i 3 x x x)")
        self.assertIs(parts_at(SHAPE, one, other, WORLD, (1,), 5), False)

    def test_too_long(self):
        short, long = read_program("inputs x\ntell x"), read_program("inputs x\ntell (loop #i 3 x x (s x))")
        for one, other in ((short, long), (long, short), (long, long)):
            self.assertIs(parts_at(SHAPE, one, other, WORLD, (1,), 6), False)
            with self.assertRaises(TooLong) as caught:
                parts_at(SHAPE, one, other, WORLD, (1,), 5)
            self.assertEqual((caught.exception.__class__, caught.exception.most), (TooLong, 5))

    def test_inputs_in_a_list(self):
        one, other = read_program(RUNS[4][0]), read_program(RUNS[2][0])
        inputs = [1, 0]
        self.assertIs(parts_at(SHAPE, one, other, PAIR, inputs, 5), parts_at(SHAPE, one, other, PAIR, (1, 0), 5))
        self.assertEqual(inputs, [1, 0])

    def test_by_name(self):
        one, other = read_program("inputs x\ntell x"), read_program("inputs x\ntell (s x)")
        self.assertIs(parts_at(shape=SHAPE, one=one, other=other, world=WORLD, inputs=(0,), most=1), True)


if __name__ == "__main__":
    unittest.main()
