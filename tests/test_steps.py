import random
import unittest

from samples import IN, RUNS, SHAPE, made_programs, nested, written_out
from shapefree.errors import NoStep, ShapeError, TooMany
from shapefree.formed import form_of, program_of
from shapefree.opened import is_plain, opened
from shapefree.plain import plain
from shapefree.reader import read_program
from shapefree.steps import step_places, stepped, walked
from shapefree.terms import parts, places

DEFS = read_program("inputs\ndef f = Bee\ndef g x #i = (loop #i #i y x (pick #i x y))\n"
                    "def h #x x #y = (mix x (let x (s x) (pick [#x < #y] x A)))\ntell A")[1]


def term_of(text):
    """An opened term; z stands for its input, all other names stay."""
    return opened((("z",), DEFS, read_program("inputs\ntell " + text)[2]))


class TestStepPlaces(unittest.TestCase):
    def check(self, text, told):
        self.assertEqual(step_places(DEFS, term_of(text)), told, text)

    def test_none(self):
        for text in ("A", "z", "x", "(s z)", "(mix (s A) z)", "(s x)"):
            self.check(text, [])

    def test_lets(self):
        self.check("(let x (s z) x)", [()])
        self.check("(let x (s y) x)", [])
        self.check("(let x A (let y (s x) y))", [()])
        self.check("(let x A (let y z y))", [(), (1,)])
        self.check("(let x (let y z y) (let w A x))", [(0,), (1,)])
        self.check("(let x (mix z (let y z y)) x)", [(0, 1)])
        self.check("(let x (pick #i z) x)", [])

    def test_loops(self):
        self.check("(loop #i 3 x z x)", [()])
        self.check("(loop #i [0 * 3] x y x)", [()])
        self.check("(loop #i #j x z x)", [])
        self.check("(loop #i [1 + [2 : #j]] x z x)", [])
        self.check("(loop #i #j x (loop #i 1 x y x) (loop #i 2 y x (loop #k #i y x y)))", [(1,), (2,)])

    def test_picks(self):
        self.check("(pick 0 x y)", [()])
        self.check("(pick [1 < 2] x)", [()])
        self.check("(pick #i x)", [])
        self.check("(pick [1 * #i] x (pick 0 x))", [(2,)])
        self.check("(s (pick 0 (pick 1 x) (pick #i (pick 2 y))))", [(0,), (0, 1), (0, 2, 1)])

    def test_calls(self):
        self.check("(call f)", [()])
        self.check("(call g z 2)", [()])
        self.check("(call g (mix A z) [2 : 3])", [()])
        self.check("(call g x 2)", [])
        self.check("(call g z #i)", [])
        self.check("(call g (call f) 2)", [(0,)])
        self.check("(call h [1 + #i] z 2)", [])
        self.check("(call h 1 z #i)", [])
        self.check("(call h 1 (s (let x z x)) 2)", [(1, 0)])
        self.check("(call h 1 (call h 1 z 2) 2)", [(1,)])

    def test_in_order(self):
        for program in made_programs(6, 60, 60):
            term = opened(program)
            told = step_places(program[1], term)
            self.assertEqual([place for place in places(term) if place in told], told)
            self.assertEqual(told == [], is_plain(term), program)

    def test_the_list_is_the_askers(self):
        term = term_of("(let x A (let y z y))")
        told = step_places(DEFS, term)
        told.append((7,))
        told[0] = None
        self.assertEqual(step_places(DEFS, term), [(), (1,)])

    def test_by_name(self):
        self.assertEqual(step_places(defs=(), term=term_of("(pick 0 x)")), [()])


class TestStepped(unittest.TestCase):
    def check(self, text, told, place=()):
        self.assertEqual(stepped(DEFS, term_of(text), place, 200), term_of(told), text)

    def test_lets(self):
        self.check("(let x (s z) x)", "(s z)")
        self.check("(let x (s z) y)", "y")
        self.check("(let x (s z) (mix x (s x)))", "(mix (s z) (s (s z)))")
        self.check("(let x A (mix x y))", "(mix A y)")
        self.check("(let x A (pick #x x))", "(pick #x A)")
        self.check("(let x A (call g x #x))", "(call g A #x)")

    def test_lets_within_lets(self):
        self.check("(let x A (let x (s x) (s x)))", "(let x (s A) (s x))")
        self.check("(let x A (let y (s x) (mix x y)))", "(let y (s A) (mix A y))")
        self.check("(let x A (mix (let x z x) x))", "(mix (let x z x) A)")
        self.check("(let x A (let x (let x x x) x))", "(let x (let x A x) x)")

    def test_lets_with_loops_in_them(self):
        self.check("(let x A (loop #i 2 x x x))", "(loop #i 2 x A x)")
        self.check("(let x A (loop #i 2 y x (mix x y)))", "(loop #i 2 y A (mix A y))")
        self.check("(let x A (loop #x 2 y x x))", "(loop #x 2 y A A)")

    def test_loops(self):
        self.check("(loop #i 0 x (s y) (s x))", "(s y)")
        self.check("(loop #i [3 < 3] x (s y) (s x))", "(s y)")
        self.check("(loop #i 1 x z (s x))", "(let x (loop #i 0 x z (s x)) (s x))")
        self.check("(loop #i 3 x z (pick #i x A))", "(let x (loop #i 2 x z (pick #i x A)) (pick 2 x A))")
        self.check("(loop #i [2 * 2] x z (pick [#i + #j] x A))",
                   "(let x (loop #i 3 x z (pick [#i + #j] x A)) (pick [3 + #j] x A))")
        self.check("(loop #i 999999 x x x)", "(let x (loop #i 999998 x x x) x)")

    def test_loops_within_loops(self):
        inner = "(loop #i [#i + 1] x (pick #i x y) (pick #i x y))"
        self.check(f"(loop #i 2 x z {inner})",
                   f"(let x (loop #i 1 x z {inner}) (loop #i [1 + 1] x (pick 1 x y) (pick #i x y)))")
        inner = "(loop #j #i x x (pick #i x y))"
        self.check(f"(loop #i 2 x z {inner})",
                   f"(let x (loop #i 1 x z {inner}) (loop #j 1 x x (pick 1 x y)))")
        inner = "(let i (pick #i i) (call g i #i))"
        self.check(f"(loop #i 2 x z {inner})",
                   f"(let x (loop #i 1 x z {inner}) (let i (pick 1 i) (call g i 1)))")

    def test_picks(self):
        for number, told in (("0", "x"), ("1", "(s y)"), ("2", "A"), ("3", "x"), ("999999", "x"), ("[2 + 2]", "(s y)")):
            self.check(f"(pick {number} x (s y) A)", told)
        self.check("(pick 5 (pick #i x))", "(pick #i x)")

    def test_calls(self):
        self.check("(call f)", "Bee")
        self.check("(call g (s z) [1 + 2])", "(loop #i 3 y (s z) (pick #i (s z) y))")
        self.check("(call h 4 A [7 : 4])", "(mix A (let x (s A) (pick [4 < 3] x A)))")

    def test_within_others(self):
        self.check("(mix (s (let x A x)) y)", "(mix (s A) y)", (0, 0))
        self.check("(mix (call f) (call f))", "(mix (call f) Bee)", (1,))
        self.check("(let x (call f) (pick 1 x (s x)))", "(let x (call f) (s x))", (1,))
        self.check("(loop #i #j x (pick 0 x) (let y A (mix x y)))", "(loop #i #j x x (let y A (mix x y)))", (1,))
        self.check("(loop #i #j x (pick 0 x) (let y A (mix x y)))", "(loop #i #j x (pick 0 x) (mix x A))", (2,))
        self.check("(pick #i y (pick 1 x A))", "(pick #i y A)", (2,))
        self.check("(call h #i (call f) 3)", "(call h #i Bee 3)", (1,))

    def refuse(self, kind, term, place, most, defs=DEFS):
        with self.assertRaises(ShapeError, msg=(term, place, most)) as caught:
            stepped(defs, term, place, most)
        self.assertIs(caught.exception.__class__, kind, (term, place, most))
        return caught.exception

    def test_no_step(self):
        term = term_of("(mix (let x (s y) (let w z w)) (pick 3 A))")
        self.assertEqual(step_places(DEFS, term), [(0, 1), (1,)])
        for place in ((), (0,), (0, 0), (0, 0, 0), (0, 1, 0), (1, 0), (1, 1), (2,), (-1,), (0, -1), (0, 2), (1, 0, 0),
                      (0, 1, 0, 0), (-2, 1), (7, 7, 7), (1, -2), (10 ** 9,), (-10 ** 9, 0)):
            self.refuse(NoStep, term, place, 200)
        for text in ("A", "z", "x", "(s z)", "(let x y x)", "(loop #i #i x z x)", "(pick #i x)", "(call g x 1)",
                     "(call g z #i)", "(call e)"):
            self.refuse(NoStep, term_of(text), (), 200)

    def test_most(self):
        term = term_of("(mix (let x (s z) (mix x x)) A)")
        told = term_of("(mix (mix (s z) (s z)) A)")
        self.assertEqual(len(parts(told)), 7)
        for most in (7, 8, 200):
            self.assertEqual(stepped((), term, (0,), most), told)
        for most in (6, 3, 1):
            self.assertEqual(self.refuse(TooMany, term, (0,), most).most, most)
        self.assertEqual(stepped((), term, (0,), 7), told)

    def test_most_is_of_what_comes(self):
        term = term_of("(pick 1 (mix (s z) (s z)) A)")
        self.assertEqual(stepped((), term, (), 1), term_of("A"))
        term = term_of("(loop #i [1 + 1] x z x)")
        self.assertEqual(len(parts(stepped((), term, (), 6))), 6)
        self.refuse(TooMany, term, (), 5)

    def test_no_step_ahead_of_too_many(self):
        term = term_of("(mix (let x y x) (pick 0 (s A) A))")
        self.refuse(NoStep, term, (0,), 1)
        self.refuse(NoStep, term, (5,), 1)
        self.refuse(TooMany, term, (1,), 1)

    def test_great_terms(self):
        body = "q"
        for k in range(14):
            body = f"(mix q {body})"
        defs = (("f", (("q", "thing"),), read_program("inputs q\ntell " + body)[2]),)
        term = ("call", "f", (read_program("inputs\ntell " + body.replace("q", "A"))[2],))
        self.assertEqual(self.refuse(TooMany, term, (), 200, defs).most, 200)

    def test_deep(self):
        term = opened((("x",), (), ("let", "y", nested(2000)[0], ("do", "s", (("name", "y"),)))))
        told = stepped((), term, (), 2002)
        self.assertIs(is_plain(told), True)
        self.assertEqual(len(parts(told)), 2002)

    def test_by_name(self):
        self.assertEqual(stepped(defs=(), term=term_of("(pick 0 x)"), place=(), most=1), ("name", "x"))


class TestWalked(unittest.TestCase):
    def check(self, text, steps):
        program = read_program(text)
        self.assertEqual(walked(program[1], opened(program), 200), (steps, written_out(program)[0]), text)

    def test_steps(self):
        self.check("inputs x\ntell (s x)", 0)
        self.check("inputs x\ntell (let y (s x) (mix y y))", 1)
        self.check("inputs x\ntell (loop #i 0 y x y)", 1)
        self.check("inputs x\ntell (loop #i 1 y x (s y))", 3)
        self.check("inputs x\ntell (loop #i 3 y x (pick #i y (s y)))", 10)
        self.check("inputs x\ndef f x #i = (pick #i x (s x))\ntell (call f (call f x 2) 3)", 4)
        self.check("inputs x\ntell (let y (pick 0 x) (let z (pick 1 x y) (mix y z)))", 4)

    def test_plain_forms(self):
        for program in [read_program(text) for text, turns in RUNS] + made_programs(7, 60, 30):
            try:
                steps, term = walked(program[1], opened(program), 200)
            except TooMany as refused:
                self.assertEqual(refused.most, 200)
                continue
            self.assertIs(is_plain(term), True)
            self.assertEqual(term, written_out(program)[0], program)
            self.assertEqual(form_of(term), plain(SHAPE, program, 60))

    def test_first_place_by_first_place(self):
        for program in made_programs(8, 40, 30):
            term = opened(program)
            steps = 0
            try:
                told = walked(program[1], term, 200)
            except TooMany:
                continue
            while step_places(program[1], term):
                term = stepped(program[1], term, step_places(program[1], term)[0], 200)
                steps += 1
            self.assertEqual(told, (steps, term))

    def test_any_order(self):
        chance = random.Random(9)
        ended = 0
        for program in [read_program(text) for text, turns in RUNS] + made_programs(9, 60, 20):
            for choice in (lambda places: places[-1], chance.choice, chance.choice):
                term = opened(program)
                try:
                    while step_places(program[1], term):
                        term = stepped(program[1], term, choice(step_places(program[1], term)), 200)
                except TooMany:
                    continue
                ended += 1
                self.assertEqual(form_of(term), plain(SHAPE, program, 60), program)
        self.assertGreater(ended, 200)

    def test_most(self):
        program = read_program("inputs x\ntell (loop #i 3 y x (mix y y))")
        term = opened(program)
        self.assertEqual(walked((), term, 18)[0], 7)
        for most in (1, 5, 17):
            with self.assertRaises(TooMany) as caught:
                walked((), term, most)
            self.assertEqual(caught.exception.most, most)

    def test_no_steps_are_never_too_many(self):
        term = opened(read_program("inputs x\ntell (mix (s x) (s x))"))
        self.assertEqual(walked((), term, 1), (0, term))

    def test_long_loops_end(self):
        program = read_program("inputs x\ntell (loop #i 999999 y x (loop #j 999999 z y (s z)))")
        with self.assertRaises(TooMany):
            walked((), opened(program), 200)

    def test_great_programs(self):
        chain = read_program("inputs x\ntell (loop #i 1000 y x (s y))")
        term = opened(program_of(plain(SHAPE, chain, 2000), 1))
        self.assertEqual(walked((), term, 200)[0], 0)
        doubling = read_program("inputs x\ntell (loop #i 1000 y x (mix y y))")
        with self.assertRaises(TooMany):
            walked((), opened(program_of(plain(SHAPE, doubling, 2000), 1)), 200)

    def test_by_name(self):
        self.assertEqual(walked(defs=(), term=IN, most=1), (0, IN))


if __name__ == "__main__":
    unittest.main()
