import unittest

from samples import SHAPE, nested
from shapefree.errors import NoName, ShapeError, Twice, WrongCount
from shapefree.looker import look
from shapefree.reader import read_program

A = ("fixed", "A")


class TestLook(unittest.TestCase):
    def let_by(self, *rows):
        self.assertIs(look(SHAPE, read_program("\n".join(rows))), True)

    def refuse(self, kind, name, *rows):
        self.refuse_program(kind, name, read_program("\n".join(rows)))

    def refuse_program(self, kind, name, program):
        with self.assertRaises(ShapeError, msg=program) as caught:
            look(SHAPE, program)
        self.assertEqual((caught.exception.__class__, caught.exception.name), (kind, name), program)

    def test_let_by(self):
        self.let_by("inputs", "tell A")
        self.let_by("inputs x y", "tell (mix (s x) (mix y Bee))")
        self.let_by("inputs x", "tell (let y (s x) (mix x y))")
        self.let_by("inputs x", "tell (loop #i 3 y x (pick #i y x (s y)))")
        self.let_by("inputs x", "tell (pick [1 + [2 : 3]] x)")
        self.let_by("inputs", "def f = A", "def g x #i = (pick #i x (call f))", "tell (call g (call f) 7)")

    def test_inputs_twice(self):
        self.refuse(Twice, "x", "inputs x x", "tell x")
        self.refuse(Twice, "x", "inputs x y x y", "tell x")
        self.refuse(Twice, "y", "inputs x y y x", "tell x")

    def test_defs_twice(self):
        self.refuse(Twice, "f", "inputs", "def f = A", "def f = A", "tell A")
        self.refuse(Twice, "f", "inputs", "def f = A", "def g = A", "def f x = A", "tell A")

    def test_params_twice(self):
        self.refuse(Twice, "x", "inputs", "def f x x = x", "tell A")
        self.refuse(Twice, "x", "inputs", "def f #x y #x = y", "tell A")
        self.refuse(Twice, "y", "inputs", "def f x y #x y x = y", "tell A")
        self.let_by("inputs", "def f x #x = (pick #x x)", "tell (call f A 1)")

    def test_one_name_of_several_kinds(self):
        self.let_by("inputs s f", "def s f = (s f)", "def f s = (call s s)", "tell (call s (s (call f f)))")

    def test_order_of_twice(self):
        self.refuse(Twice, "x", "inputs x x", "def f y y = z", "tell q")
        self.refuse(Twice, "y", "inputs x", "def f y y = z", "def f = A", "tell q")
        self.refuse(Twice, "f", "inputs x", "def f = A", "def f y y = z", "tell q")
        self.refuse(Twice, "y", "inputs x", "def f = A", "def g y y = z", "def f = A", "tell q")
        self.refuse(NoName, "z", "inputs x", "def f y = z", "def f = A", "tell q")
        self.refuse(NoName, "z", "inputs x", "def f y = z", "def g y y = A", "tell q")
        self.refuse(Twice, "f", "inputs x", "def f y = y", "def f y = z", "tell q")
        self.refuse(NoName, "q", "inputs x", "def f y = y", "tell q")

    def test_names(self):
        self.refuse(NoName, "x", "inputs", "tell x")
        self.refuse(NoName, "y", "inputs x", "tell (mix x y)")
        self.refuse(NoName, "x", "inputs x", "def f = x", "tell x")
        self.refuse(NoName, "y", "inputs x", "def f y = y", "tell y")
        self.refuse(NoName, "y", "inputs x", "def f y = y", "def g = y", "tell x")

    def test_counts(self):
        self.refuse(NoName, "i", "inputs", "tell (pick #i A)")
        self.refuse(NoName, "i", "inputs", "tell (pick [[1 + 2] * [3 : #i]] A)")
        self.refuse(NoName, "i", "inputs", "def f #i = A", "tell (call f #i)")
        self.refuse(NoName, "j", "inputs", "def f #i = (pick [#i + #j] A)", "tell A")

    def test_things_and_numbers_of_one_name(self):
        self.refuse(NoName, "x", "inputs x", "tell (pick #x x)")
        self.refuse(NoName, "x", "inputs", "def f #x = x", "tell A")
        self.refuse(NoName, "x", "inputs", "def f x = (pick #x x)", "tell A")
        self.refuse(NoName, "i", "inputs", "tell (loop #i 2 x A i)")
        self.refuse(NoName, "x", "inputs", "tell (loop #i 2 x A (pick #x x))")
        self.refuse(NoName, "y", "inputs", "tell (let y A (pick #y y))")
        self.let_by("inputs x", "tell (loop #x 2 x x (pick #x x))")

    def test_fixed(self):
        self.refuse(NoName, "C", "inputs", "tell C")
        self.refuse(NoName, "Be", "inputs", "tell (s Be)")

    def test_dos(self):
        self.refuse(NoName, "d", "inputs x", "tell (d x)")
        self.refuse(NoName, "d", "inputs x", "tell (d y C)")
        self.refuse(WrongCount, "s", "inputs x", "tell (s x x)")
        self.refuse(WrongCount, "mix", "inputs x", "tell (mix x)")
        self.refuse(WrongCount, "mix", "inputs x", "tell (mix x x x)")
        self.refuse(WrongCount, "mix", "inputs x", "tell (mix q)")
        self.refuse(WrongCount, "mix", "inputs x", "tell (s (mix q))")
        self.refuse(NoName, "f", "inputs", "def f x = x", "tell (f A)")
        self.refuse_program(WrongCount, "s", ((), (), ("do", "s", ())))
        self.refuse_program(NoName, "d", ((), (), ("do", "d", ())))

    def test_calls_of_defs(self):
        self.refuse(NoName, "f", "inputs", "tell (call f)")
        self.refuse(NoName, "f", "inputs", "def f = (call f)", "tell A")
        self.refuse(NoName, "g", "inputs", "def f = (call g)", "def g = A", "tell A")
        self.let_by("inputs", "def f = A", "def g = (call f)", "def h = (mix (call f) (call g))", "tell (call h)")
        self.let_by("inputs", "def f = A", "def g = A", "def h = A", "tell (mix (call f) (s (call h)))")
        self.refuse(NoName, "s", "inputs x", "tell (call s x)")
        self.refuse(NoName, "g", "inputs", "def f = A", "tell (call g q #i)")

    def test_counts_of_args(self):
        head = "def f x #i = (pick #i x)"
        self.let_by("inputs x", head, "tell (call f x 1)")
        for text in ("(call f)", "(call f x)", "(call f 1)", "(call f x 1 x)", "(call f x 1 1)", "(call f 1 x)",
                     "(call f x x)", "(call f 1 1)", "(call f x (s x))", "(call f [1 + 2] #i)", "(call f #i x)",
                     "(call f q)", "(call f #q)", "(call f C C)"):
            self.refuse(WrongCount, "f", "inputs x", head, "tell " + text)
        self.refuse(WrongCount, "f", "inputs x", "def f = A", "tell (call f x)")
        self.let_by("inputs x", head, "tell (loop #i 2 x x (call f (call f A [#i + 1]) #i))")

    def test_args_are_looked_at(self):
        head = "def f x #i = (pick #i x)"
        self.refuse(NoName, "q", "inputs x", head, "tell (call f q #r)")
        self.refuse(NoName, "r", "inputs x", head, "tell (call f x #r)")

    def test_order_in_terms(self):
        self.refuse(NoName, "p", "inputs", "tell (mix p q)")
        self.refuse(NoName, "p", "inputs", "tell (mix (s (s p)) q)")
        self.refuse(WrongCount, "s", "inputs", "tell (mix (s p q) r)")
        self.refuse(NoName, "p", "inputs", "tell (let y p q)")
        self.refuse(NoName, "i", "inputs", "tell (loop #j #i x p q)")
        self.refuse(NoName, "p", "inputs", "tell (loop #j 1 x p q)")
        self.refuse(NoName, "q", "inputs", "tell (loop #j 1 x A q)")
        self.refuse(NoName, "i", "inputs", "tell (pick #i p q)")
        self.refuse(NoName, "p", "inputs", "tell (pick 0 p q)")
        self.refuse(NoName, "i", "inputs", "tell (pick [#i + #j] p)")
        self.refuse(NoName, "q", "inputs", "tell (pick 0 A q)")

    def test_let_binds_its_b_alone(self):
        self.refuse(NoName, "y", "inputs x", "tell (let y y x)")
        self.refuse(NoName, "y", "inputs x", "tell (let y (s y) y)")
        self.refuse(NoName, "y", "inputs x", "tell (mix (let y x y) y)")
        self.refuse(NoName, "y", "inputs x", "tell (mix y (let y x y))")
        self.refuse(NoName, "z", "inputs x", "tell (let y (let z x z) z)")
        self.let_by("inputs x", "tell (let x (s x) (let x (s x) x))")
        self.let_by("inputs x", "tell (let y (let y x y) y)")

    def test_loop_binds_its_b_alone(self):
        self.refuse(NoName, "i", "inputs x", "tell (loop #i #i y x y)")
        self.refuse(NoName, "i", "inputs x", "tell (loop #i 2 y (pick #i x) y)")
        self.refuse(NoName, "y", "inputs x", "tell (loop #i 2 y y y)")
        self.refuse(NoName, "y", "inputs x", "tell (mix (loop #i 2 y x y) y)")
        self.refuse(NoName, "i", "inputs x", "tell (mix (loop #i 2 y x y) (pick #i x))")
        self.let_by("inputs x", "tell (loop #i 2 y x (loop #i #i y (pick #i y) (pick #i y)))")

    def test_what_is_bound_further_out_stays(self):
        self.let_by("inputs x", "tell (let y x (let z x (loop #i 2 w y (pick #i x y z w))))")
        self.let_by("inputs x", "tell (mix (let x A x) x)")

    def test_by_the_shape(self):
        program = read_program("inputs x\ntell (d (s x))")
        self.assertIs(look(((), (("s", 1), ("d", 1))), program), True)
        for shape, kind, name in (
                (((), ()), NoName, "d"),
                (((), (("d", 1),)), NoName, "s"),
                (((), (("d", 2),)), WrongCount, "d"),
                (((), (("d", 1), ("s", 2))), WrongCount, "s"),
        ):
            with self.assertRaises(kind) as caught:
                look(shape, program)
            self.assertEqual(caught.exception.name, name)

    def test_the_same_again(self):
        good = read_program("inputs x\ndef f = A\ntell (call f)")
        bad = read_program("inputs x\ntell (call f)")
        for k in range(3):
            self.assertIs(look(SHAPE, good), True)
            self.refuse_program(NoName, "f", bad)

    def test_deep(self):
        self.assertIs(look(SHAPE, (("x",), (), nested(3000)[0])), True)
        self.refuse_program(NoName, "x", (("y",), (), nested(15)[0]))

    def test_by_name(self):
        self.assertIs(look(shape=SHAPE, program=((), (), A)), True)


if __name__ == "__main__":
    unittest.main()
