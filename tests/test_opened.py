import unittest

from samples import A, IN, IN_ONE, X, Y, made_programs, mix, nested, s
from shapefree.opened import is_plain, opened
from shapefree.reader import read_program
from shapefree.terms import deep, parts, places


class TestOpened(unittest.TestCase):
    def check(self, text, told):
        self.assertEqual(opened(read_program(text)), told, text)

    def test_small(self):
        self.check("inputs\ntell A", A)
        self.check("inputs x\ntell x", IN)
        self.check("inputs x y\ntell y", IN_ONE)
        self.check("inputs y x w\ntell (mix (s x) (mix w y))", mix(s(IN_ONE), mix(("input", 2), IN)))

    def test_lets(self):
        self.check("inputs x\ntell (let y (s x) (mix x y))", ("let", "y", s(IN), mix(IN, Y)))
        self.check("inputs x\ntell (let x (s x) (s x))", ("let", "x", s(IN), s(X)))
        self.check("inputs x\ntell (mix (let x x x) x)", mix(("let", "x", IN, X), IN))
        self.check("inputs x y\ntell (let x (let y x y) (mix x y))",
                   ("let", "x", ("let", "y", IN, Y), mix(X, IN_ONE)))
        self.check("inputs x y\ntell (let x x (let y (mix x y) (mix x y)))",
                   ("let", "x", IN, ("let", "y", mix(X, IN_ONE), mix(X, Y))))

    def test_loops(self):
        number = ("op", "+", ("num", 1), ("num", 2))
        self.check("inputs x\ntell (loop #i [1 + 2] x x x)", ("loop", "i", number, "x", IN, X))
        self.check("inputs x\ntell (loop #i 2 y x (mix x y))", ("loop", "i", ("num", 2), "y", IN, mix(IN, Y)))
        self.check("inputs x\ntell (loop #x 2 y x (pick #x x y))",
                   ("loop", "x", ("num", 2), "y", IN, ("pick", ("count", "x"), (IN, Y))))

    def test_picks_and_calls(self):
        self.check("inputs x\ndef f x #i = (s x)\ntell (pick [0 < 1] (call f x [1 * 2]) (s x))",
                   ("pick", ("op", "<", ("num", 0), ("num", 1)),
                    (("call", "f", (IN, ("op", "*", ("num", 1), ("num", 2)))), s(IN))))
        self.check("inputs x\ndef f = A\ntell (call f)", ("call", "f", ()))

    def test_no_name_is_left_free(self):
        def names(term, bound):
            if term[0] == "name":
                self.assertIn(term[1], bound)
            for k, part in enumerate(parts_right_in(term)):
                inner = bound
                if term[0] == "let" and k == 1:
                    inner = bound + [term[1]]
                if term[0] == "loop" and k == 2:
                    inner = bound + [term[3]]
                names(part, inner)

        for program in made_programs(5, 80, 60):
            term = opened(program)
            names(term, [])
            self.assertEqual(places(term), places(program[2]))

    def test_inputs_are_parts(self):
        term = opened(read_program("inputs x\ntell (mix (s x) x)"))
        self.assertEqual(parts(term), [mix(s(IN), IN), s(IN), IN, IN])
        self.assertEqual((deep(term), deep(IN)), (2, 0))

    def test_deep(self):
        term = opened((("x",), (), nested(3000)[0]))
        self.assertEqual(deep(term), 3000)
        self.assertIs(is_plain(term), True)
        term = X
        for k in range(2000):
            term = ("let", "y", s(X), term)
        self.assertEqual(parts(opened((("x",), (), term)))[-1], IN)

    def test_by_name(self):
        self.assertEqual(opened(program=(("x",), (), X)), IN)


def parts_right_in(term):
    return [part for place, part in zip(places(term), parts(term)) if len(place) == 1]


class TestIsPlain(unittest.TestCase):
    def test_plain(self):
        for term in (A, IN, s(A), s(s(IN)), mix(IN, IN_ONE), mix(s(mix(A, IN)), s(s(A)))):
            self.assertIs(is_plain(term), True, term)

    def test_not_plain(self):
        for term in (X, ("let", "x", A, A), ("loop", "i", ("num", 0), "x", A, A), ("pick", ("num", 0), (A,)),
                     ("call", "f", ())):
            for whole in (term, s(term), mix(A, term), mix(term, A), s(s(mix(IN, s(term))))):
                self.assertIs(is_plain(whole), False, whole)

    def test_by_name(self):
        self.assertIs(is_plain(term=A), True)


if __name__ == "__main__":
    unittest.main()
