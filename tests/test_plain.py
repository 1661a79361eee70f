import itertools
import unittest

from samples import (
    A, BEE, IN, IN_ONE, PAIR, RUNS, SHAPE, WORLD, WORLDS, form, form_written_out, made_programs, mix, nested, s,
    written_out,
)
from shapefree.errors import TooLong
from shapefree.plain import deeds, depth, is_plain_form, plain, value
from shapefree.reader import read_program
from shapefree.runs import run

# (mix (mix y (s x)) (mix (s x) A)), with x the input 0 and y the input 1.
SAMPLE = form(IN_ONE, IN, s(1), mix(0, 2), A, mix(2, 4), mix(3, 5))


def doubled(rounds):
    return plain(SHAPE, read_program(f"inputs x\ntell (loop #i {rounds} y x (mix y y))"), 2000)


class TestPlain(unittest.TestCase):
    def check(self, text, told):
        self.assertEqual(plain(SHAPE, read_program(text), 100), told, text)

    def test_forms(self):
        self.check("inputs\ntell A", form(A))
        self.check("inputs x y\ntell y", form(IN_ONE))
        self.check("inputs x\ntell (s x)", form(IN, s(0)))
        self.check("inputs x\ntell (mix x x)", form(IN, mix(0, 0)))
        self.check("inputs x y\ntell (mix y x)", form(IN_ONE, IN, mix(0, 1)))
        self.check("inputs x y\ntell (mix x y)", form(IN, IN_ONE, mix(0, 1)))
        self.check("inputs\ntell (mix A A)", form(A, mix(0, 0)))
        self.check("inputs x y\ntell (let z (s x) (mix (mix y z) (mix z A)))", SAMPLE)
        self.check("inputs x y\ntell (mix (mix y (s x)) (mix (s x) A))", SAMPLE)

    def test_what_is_not_told_is_not_there(self):
        self.check("inputs x y\ntell (let z (mix x y) (s y))", form(IN_ONE, s(0)))
        self.check("inputs x\ntell (loop #i 3 y (s x) A)", form(A))
        self.check("inputs x\ntell (pick 1 (s x) A)", form(A))
        self.check("inputs x\ndef f x y = y\ntell (call f (s x) Bee)", form(BEE))

    def test_order_is_by_what_is_told(self):
        self.check("inputs x y\ntell (let z (s A) (let w (s y) (mix (mix w x) z)))",
                   form(IN_ONE, s(0), IN, mix(1, 2), A, s(4), mix(3, 5)))
        self.check("inputs x\ntell (mix (s (s x)) (s x))", form(IN, s(0), s(1), mix(2, 1)))
        self.check("inputs x\ntell (mix (s x) (s (s x)))", form(IN, s(0), s(1), mix(1, 2)))
        self.check("inputs x\ntell (mix (s (s x)) (mix x (s x)))", form(IN, s(0), s(1), mix(0, 1), mix(2, 3)))

    def test_loops_and_calls(self):
        self.check("inputs x\ntell (loop #i 3 y x (mix x y))", form(IN, mix(0, 0), mix(0, 1), mix(0, 2)))
        self.check("inputs x\ndef f y #i = (pick #i y (s y))\ntell (loop #i 2 y x (call f (call f y #i) 1))",
                   form(IN, s(0), s(1), s(2)))

    def test_beside_another_run(self):
        programs = [read_program(text) for text, turns in RUNS] + made_programs(2, 150, 60)
        for program in programs:
            told = plain(SHAPE, program, 60)
            self.assertEqual(form_written_out(told), written_out(program)[0], program)
            self.assertIs(is_plain_form(SHAPE, len(program[0]), told), True, program)

    def test_doubling(self):
        told = doubled(12)
        self.assertEqual(told, form(*[IN] + [mix(k, k) for k in range(12)]))
        self.assertEqual(len(doubled(1000)[0]), 1001)

    def test_most(self):
        for text, turns in RUNS:
            program = read_program(text)
            told = plain(SHAPE, program, 2000)
            if turns:
                self.assertEqual(plain(SHAPE, program, turns), told)
            if turns > 1:
                with self.assertRaises(TooLong) as caught:
                    plain(SHAPE, program, turns - 1)
                self.assertEqual((caught.exception.__class__, caught.exception.most), (TooLong, turns - 1))

    def test_the_same_again(self):
        told = plain(SHAPE, read_program(RUNS[4][0]), 9)
        doubled(9)
        self.assertEqual(plain(SHAPE, read_program(RUNS[4][0]), 9), told)

    def test_deep(self):
        told = plain(SHAPE, (("x",), (), nested(2000)[0]), 2000)
        self.assertEqual(told, form(*[IN] + [s(k) for k in range(2000)]))

    def test_by_name(self):
        program = read_program("inputs x\ntell x")
        self.assertEqual(plain(shape=SHAPE, program=program, most=1), form(IN))


class TestValue(unittest.TestCase):
    def test_values(self):
        self.assertEqual(value(SHAPE, form(A), WORLD, ()), 0)
        self.assertEqual(value(SHAPE, form(BEE), WORLD, ()), 2)
        self.assertEqual(value(SHAPE, form(IN_ONE), WORLD, (0, 1)), 1)
        self.assertEqual(value(SHAPE, form(IN, s(0)), WORLD, (1,)), 2)
        self.assertEqual(value(SHAPE, form(IN_ONE, IN, mix(0, 1)), PAIR, (0, 1)), 1)
        self.assertEqual(value(SHAPE, form(IN, IN_ONE, mix(0, 1)), PAIR, (0, 1)), 0)

    def test_as_programs_tell(self):
        programs = [read_program(text) for text, turns in RUNS] + made_programs(3, 80, 60)
        for program in programs:
            told = plain(SHAPE, program, 60)
            turns = {}
            for world in WORLDS:
                for inputs in itertools.product(range(world[0]), repeat=len(program[0])):
                    result = run(SHAPE, program, world, inputs, 60)
                    self.assertEqual(value(SHAPE, told, world, inputs), result[0], program)
                    turns[result[1]] = True
            self.assertEqual(len(turns), 1, program)

    def test_inputs_in_a_list(self):
        inputs = [2, 1]
        self.assertEqual(value(SHAPE, SAMPLE, WORLD, inputs), value(SHAPE, SAMPLE, WORLD, (2, 1)))
        self.assertEqual(inputs, [2, 1])

    def test_doubling(self):
        self.assertEqual(value(SHAPE, doubled(1000), WORLD, (2,)), 2)

    def test_by_name(self):
        self.assertEqual(value(shape=SHAPE, form=form(IN), world=WORLD, inputs=(1,)), 1)


class TestDepthAndDeeds(unittest.TestCase):
    def check(self, told, depth_told, deeds_told):
        self.assertEqual((depth(told), deeds(told)), (depth_told, deeds_told), told)

    def test_small(self):
        self.check(form(IN), 0, 0)
        self.check(form(A), 0, 0)
        self.check(form(IN, s(0)), 1, 1)
        self.check(form(IN, mix(0, 0)), 1, 1)
        self.check(form(IN, s(0), mix(0, 1)), 2, 2)
        self.check(form(IN, s(0), mix(1, 0)), 2, 2)
        self.check(form(IN, s(0), mix(1, 1)), 2, 3)
        self.check(SAMPLE, 3, 5)

    def test_doubling(self):
        self.check(doubled(20), 20, 2 ** 20 - 1)
        self.check(doubled(1000), 1000, 2 ** 1000 - 1)

    def test_written_out(self):
        def count(term):
            return 1 + sum(map(count, term[2])) if term[0] == "do" else 0

        def deepest(term):
            return 1 + max(map(deepest, term[2])) if term[0] == "do" else 0

        for program in made_programs(4, 60, 60):
            told = plain(SHAPE, program, 60)
            term = form_written_out(told)
            self.check(told, deepest(term), count(term))

    def test_by_name(self):
        self.assertEqual((depth(form=SAMPLE), deeds(form=SAMPLE)), (3, 5))


class TestIsPlainForm(unittest.TestCase):
    def let_by(self, thing, inputs=2, shape=SHAPE):
        self.assertIs(is_plain_form(shape, inputs, thing), True, thing)

    def refuse(self, thing, inputs=2, shape=SHAPE):
        self.assertIs(is_plain_form(shape, inputs, thing), False, thing)

    def test_forms(self):
        for thing in (form(IN), form(IN_ONE), form(A), form(BEE), form(IN, s(0)), form(IN, mix(0, 0)), SAMPLE,
                      form(IN, s(0), mix(0, 1)), form(IN, s(0), mix(1, 0)), form(IN, s(0), s(1), mix(1, 2))):
            self.let_by(thing)
        self.let_by(doubled(20))
        self.let_by(form(("input", 2)), 3)

    def test_nothing(self):
        for thing in (None, True, False, 0, 1, "", "input", (), ((),), ((), 0), ((), -1), ((), None), ("", 0),
                      (IN, 0), ((IN,),), ((IN,), 0, 0), ((IN,), 0, ()), (0, (IN,)), ((), ()), IN, A, s(0),
                      ("ab", 1), (((),), 0), ((None,), 0), ((0,), 0), ((True,), 0), (("x",), 0), (("do",), 0)):
            self.refuse(thing)

    def test_tops(self):
        for top in (-1, 1, True, False, None, "0", (0,), (), 2):
            self.refuse(((IN,), top))
        for top in (0, 2, -1, True, None, "1", (1,)):
            self.refuse(((IN, s(0)), top))

    def test_inputs(self):
        for k in (2, 3, -1, True, False, None, "0", (0,), ()):
            self.refuse(form(("input", k)))
            self.refuse(form(("input", k), s(0)))
        self.refuse(form(IN), 0)
        self.refuse(form(IN_ONE), 1)
        self.let_by(form(IN), 1)
        for node in (("input",), ("input", 0, 0), ("input", 0, ()), ("Input", 0), ("input ", 0), (0, "input"),
                     (("input",), 0), (None, 0), (True, 0), (("input", 0), 0), ("num", 0)):
            self.refuse(form(node))

    def test_fixed(self):
        for c in ("C", "a", "Be", "", "s", None, 0, True, (), ("A",)):
            self.refuse(form(("fixed", c)))
        for node in (("fixed",), ("fixed", "A", "A"), ("fixed", "A", ()), ("name", "A"), ("A",), "A", ("Fixed", "A")):
            self.refuse(form(node))
        self.refuse(form(A), 2, ((), SHAPE[1]))

    def test_dos(self):
        for d in ("d", "mix", "S", "A", "", None, 1, True, (), ("s",), ("s", 1)):
            self.refuse(form(IN, ("do", d, (0,))))
        for parts in ((), (0, 0), (1,), (2,), (-1,), (True,), (False,), (None,), ("0",), ((0,),), 0, None, "0", True,
                      (0, 0, 0)):
            self.refuse(form(IN, ("do", "s", parts)))
        for parts in ((), (0,), (0, 1), (1, 0), (0, 2), (-1, 0), (0, -1), (0, False), (False, 0), (0, None),
                      (0, 0, 0), "00"):
            self.refuse(form(IN, ("do", "mix", parts)))
        for node in (("do", "s"), ("do", "s", (0,), 0), ("do", (0,), "s"), ("s", (0,)), ("Do", "s", (0,)),
                     ("do", "s", (0,), ()), ("call", "s", (0,)), (0, "s", (0,)), (None, "s", (0,))):
            self.refuse(form(IN, node))
            self.refuse(form(IN, node, mix(0, 1)))
        self.refuse(form(IN, s(0)), 2, (SHAPE[0], (("s", 2), ("mix", 2))))
        self.refuse(form(IN, s(0)), 2, (SHAPE[0], (("mix", 2),)))

    def test_itself_and_later_ones(self):
        self.refuse(form(s(0)))
        self.refuse(form(s(1), IN))
        self.refuse(form(IN, s(1)))
        self.refuse(form(IN, s(2), s(1)))
        self.refuse(form(IN, s(0), mix(0, 3), mix(1, 2)))

    def test_order(self):
        self.refuse(form(IN_ONE, IN, mix(1, 0)))
        self.refuse(form(IN, IN_ONE, mix(1, 0)))
        self.let_by(form(IN, IN_ONE, mix(0, 1)))
        self.refuse(form(IN, IN_ONE, s(0), mix(2, 1)))
        self.let_by(form(IN, s(0), IN_ONE, mix(1, 2)))
        self.refuse(form(IN, IN_ONE, s(1), s(0), mix(3, 2)))
        self.refuse(form(IN, s(0), s(1), A, mix(3, 2)))

    def test_neighbours_exchanged(self):
        nodes, top = SAMPLE
        for k in range(top):
            numbers = list(range(top + 1))
            numbers[k], numbers[k + 1] = k + 1, k
            moved = [nodes[numbers[j]] for j in range(top + 1)]
            moved = tuple(("do", node[1], tuple(numbers[part] for part in node[2])) if node[0] == "do" else node
                          for node in moved)
            self.refuse((moved, top))

    def test_twice(self):
        self.refuse(form(IN, IN, mix(0, 1)))
        self.refuse(form(IN, s(0), s(0), mix(1, 2)))
        self.refuse(form(A, A, mix(0, 1)))
        self.refuse(form(IN, s(0), IN, s(2), mix(1, 3)))

    def test_what_nothing_needs(self):
        self.refuse(form(IN, IN_ONE))
        self.refuse(form(A, IN, s(1)))
        self.refuse(form(IN, A, s(0)))
        self.refuse(form(IN, s(0), s(0)))
        self.refuse(form(IN, s(0), mix(0, 0)))
        self.refuse(form(IN, IN_ONE, mix(0, 1), s(0)))

    def test_deep_things(self):
        thing = ()
        for k in range(5000):
            thing = (thing,)
        for one in (thing, (thing, 0), ((thing,), 0), form(("input", thing)), form(("fixed", thing)), ((IN,), thing),
                    form(IN, ("do", thing, (0,))), form(IN, ("do", "s", thing)), form(IN, ("do", "s", (thing,)))):
            self.assertIs(is_plain_form(SHAPE, 1, one), False)

    def test_by_name(self):
        self.assertIs(is_plain_form(shape=SHAPE, inputs=2, thing=SAMPLE), True)
        self.assertIs(is_plain_form(shape=SHAPE, inputs=1, thing=SAMPLE), False)


if __name__ == "__main__":
    unittest.main()
