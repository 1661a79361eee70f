import itertools
import unittest

from samples import A, CHAIN, ONE, PAIR, RUNS, SHAPE, WORLD, WORLDS, made_programs, nested, run_by
from shapefree.errors import TooLong
from shapefree.reader import read_program
from shapefree.runs import run


class TestRun(unittest.TestCase):
    def check(self, text, inputs, told):
        self.assertEqual(run(SHAPE, read_program(text), WORLD, inputs, 100), told, text)

    def refuse(self, program, world, inputs, most):
        with self.assertRaises(TooLong, msg=program) as caught:
            run(SHAPE, program, world, inputs, most)
        self.assertEqual((caught.exception.__class__, caught.exception.most), (TooLong, most))

    def test_things(self):
        self.check("inputs\ntell A", (), (0, 0))
        self.check("inputs\ntell Bee", (), (2, 0))
        self.check("inputs x y\ntell y", (0, 1), (1, 0))
        self.check("inputs x\ntell (s x)", (1,), (2, 1))
        self.check("inputs x y\ntell (mix x y)", (0, 1), (1, 1))
        self.check("inputs x y\ntell (mix (s y) x)", (2, 0), (0, 2))

    def test_lets(self):
        self.check("inputs x\ntell (let y (s x) (mix x y))", (1,), (0, 2))
        self.check("inputs x\ntell (let y (s x) x)", (1,), (1, 1))
        self.check("inputs x\ntell (let x (s x) (s x))", (1,), (0, 2))
        self.check("inputs x\ntell (mix (let x (s x) x) x)", (1,), (0, 2))
        self.check("inputs x\ntell (let y x (let x (s x) (mix y x)))", (1,), (0, 2))

    def test_loops(self):
        self.check("inputs x\ntell (loop #i 0 y x (s y))", (1,), (1, 0))
        self.check("inputs x\ntell (loop #i 1 y x (s y))", (1,), (2, 2))
        self.check("inputs x\ntell (loop #i 4 y x (s y))", (1,), (2, 8))
        self.check("inputs x\ntell (loop #i 4 y x y)", (1,), (1, 4))
        self.check("inputs x\ntell (loop #i 4 y (s x) A)", (1,), (0, 5))
        self.check("inputs x\ntell (loop #i 3 y x (pick #i A y (s y)))", (1,), (1, 4))
        self.check("inputs x\ntell (loop #i 3 y x (loop #j #i z y (s z)))", (1,), (1, 9))

    def test_a_loops_n_and_a_are_outside(self):
        self.check("inputs x\ntell (loop #i 3 y x (loop #i #i y (s y) (s y)))", (0,), (0, 3 + 3 + 2 * 3))
        self.check("inputs x\ntell (loop #i 2 x (s x) (s x))", (0,), (0, 5))
        self.check("inputs x\ntell (loop #i 2 y x (loop #i 1 z (pick #i (s y) y) z))", (0,), (1, 5))

    def test_counts_behind_an_inner_loop(self):
        self.check("inputs x\ntell (loop #i 2 y x (let z (loop #i 4 w y w) (pick #i z (s z))))", (0,), (1, 11))

    def test_things_and_counts_of_one_name(self):
        self.check("inputs x\ntell (loop #x 3 x x (pick #x (s x) x x))", (1,), (2, 4))
        self.check("inputs\ndef f #x x = (pick #x x (s x))\ntell (call f 1 A)", (), (1, 2))

    def test_picks(self):
        for number, told in ((0, (1, 0)), (1, (2, 1)), (2, (0, 2)), (3, (1, 0)), (4, (2, 1)), (999998, (0, 2))):
            self.check(f"inputs x\ntell (pick {number} x (s x) (s (s x)))", (1,), told)
        self.check("inputs x\ntell (pick 7 x)", (1,), (1, 0))

    def test_calls(self):
        self.check("inputs\ndef f = Bee\ntell (call f)", (), (2, 1))
        self.check("inputs x\ndef f x = (s x)\ntell (call f (call f x))", (1,), (0, 4))
        self.check("inputs x y\ndef f y x = (mix (s y) x)\ntell (call f x y)", (0, 2), (0, 3))
        self.check("inputs x\ndef f #i x #j = (pick [#i < #j] x (s x))\ntell (call f 1 x 2)", (1,), (2, 2))
        self.check("inputs x\ndef f y = (s y)\ntell (call f x)", (0,), (1, 2))
        self.check("inputs x\ndef f y = A\ntell (call f (s x))", (1,), (0, 2))

    def test_turns(self):
        for text, turns in RUNS:
            program = read_program(text)
            for inputs in itertools.product(range(3), repeat=len(program[0])):
                self.assertEqual(run(SHAPE, program, WORLD, inputs, 100)[1], turns, text)

    def test_beside_another_run(self):
        programs = [read_program(text) for text, turns in RUNS] + made_programs(1, 120, 60)
        for program in programs:
            for world in WORLDS:
                for inputs in itertools.product(range(world[0]), repeat=len(program[0])):
                    told = run(SHAPE, program, world, inputs, 60)
                    self.assertEqual(told, run_by(program, world, inputs), program)

    def test_most(self):
        for text, turns in RUNS:
            program = read_program(text)
            inputs = (0, 0, 0)[:len(program[0])]
            if turns:
                self.assertEqual(run(SHAPE, program, ONE, inputs, turns), (0, turns))
            if turns > 1:
                self.refuse(program, WORLD, inputs, turns - 1)
                self.refuse(program, CHAIN, inputs, 1)

    def test_most_of_each_kind(self):
        for text in ("(mix x (s x))", "(loop #i 2 y x y)", "(mix (call f) x)", "(let y (s x) (s x))",
                     "(pick 0 (mix x (call f)) x)", "(loop #i 1 y x (s y))", "(loop #i 1 y (s x) y)"):
            program = read_program("inputs x\ndef f = A\ntell " + text)
            self.assertEqual(run(SHAPE, program, PAIR, (0,), 2)[1], 2)
            self.refuse(program, PAIR, (0,), 1)

    def test_long_loops_end(self):
        program = read_program("inputs x\ntell (loop #i 999999 y x (loop #j 999999 z y z))")
        for most in (1, 7, 2000):
            self.refuse(program, WORLD, [0], most)
        program = read_program("inputs x\ntell (loop #i 1000 y x (s y))")
        self.assertEqual(run(SHAPE, program, WORLD, (0,), 2000), (1, 2000))
        self.refuse(program, WORLD, (0,), 1999)

    def test_inputs_in_a_list(self):
        program = read_program("inputs x y z\ntell (mix (mix x y) (let x z x))")
        inputs = [2, 0, 1]
        self.assertEqual(run(SHAPE, program, WORLD, inputs, 2), run(SHAPE, program, WORLD, (2, 0, 1), 2))
        self.assertEqual(inputs, [2, 0, 1])

    def test_the_same_again(self):
        first, second = [read_program(RUNS[k][0]) for k in (4, 27)]
        told = run(SHAPE, first, WORLD, (1, 2), 100)
        run(SHAPE, second, CHAIN, (0,), 100)
        self.refuse(second, CHAIN, (0,), 3)
        self.assertEqual(run(SHAPE, first, WORLD, (1, 2), 100), told)

    def test_great_worlds(self):
        table = tuple((k + 1) % 40 for k in range(40))
        mix = tuple(tuple((k * j) % 40 for j in range(40)) for k in range(40))
        program = read_program("inputs x\ntell (loop #i 7 y x (s (mix y Bee)))")
        thing = 5
        for k in range(7):
            thing = (thing * 39 + 1) % 40
        self.assertEqual(run(SHAPE, program, (40, (0, 39), (table, mix)), (5,), 21), (thing, 21))

    def test_deep(self):
        self.assertEqual(run(SHAPE, (("x",), (), nested(2000)[0]), WORLD, (0,), 2000), (2, 2000))
        term = ("name", "x")
        for k in range(2000):
            term = ("let", "x", ("do", "s", (("name", "x"),)), term)
        self.assertEqual(run(SHAPE, (("x",), (), term), WORLD, (0,), 2000), (2, 2000))

    def test_by_name(self):
        told = run(shape=SHAPE, program=((), (), A), world=PAIR, inputs=(), most=1)
        self.assertEqual(told, (1, 0))


if __name__ == "__main__":
    unittest.main()
