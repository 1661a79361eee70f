import itertools
import unittest

from samples import A, IN, RUNS, SHAPE, WORLD, form, form_written_out, made_programs, mix, nested, s, written_out
from shapefree.formed import form_of, program_of
from shapefree.looker import look
from shapefree.opened import opened
from shapefree.plain import is_plain_form, plain, value
from shapefree.reader import read_program
from shapefree.runs import run
from shapefree.terms import parts
from shapefree.writer import program_text


class TestFormOf(unittest.TestCase):
    def test_small(self):
        self.assertEqual(form_of(A), form(A))
        self.assertEqual(form_of(("input", 2)), form(("input", 2)))
        self.assertEqual(form_of(s(s(A))), form(A, s(0), s(1)))
        self.assertEqual(form_of(mix(A, A)), form(A, mix(0, 0)))
        self.assertEqual(form_of(mix(s(IN), A)), form(IN, s(0), A, mix(1, 2)))
        self.assertEqual(form_of(mix(A, s(IN))), form(A, IN, s(1), mix(0, 2)))
        self.assertEqual(form_of(mix(mix(A, IN), mix(A, IN))), form(A, IN, mix(0, 1), mix(2, 2)))
        self.assertEqual(form_of(mix(mix(A, IN), mix(IN, A))), form(A, IN, mix(0, 1), mix(1, 0), mix(2, 3)))
        self.assertEqual(form_of(mix(s(s(IN)), s(IN))), form(IN, s(0), s(1), mix(2, 1)))

    def test_forms_written_out(self):
        for program in [read_program(text) for text, turns in RUNS] + made_programs(10, 80, 60):
            told = form_of(written_out(program)[0])
            self.assertEqual(told, plain(SHAPE, program, 60))
            self.assertIs(is_plain_form(SHAPE, len(program[0]), told), True)
            self.assertEqual(form_of(form_written_out(told)), told)

    def test_deep(self):
        term = opened((("x",), (), nested(3000)[0]))
        self.assertEqual(form_of(term), form(*[IN] + [s(k) for k in range(3000)]))

    def test_by_name(self):
        self.assertEqual(form_of(term=A), form(A))


class TestProgramOf(unittest.TestCase):
    def check(self, told_form, inputs):
        program = program_of(told_form, inputs)
        self.assertEqual(program[:2], (("a", "b", "c")[:inputs], ()))
        self.assertIs(look(SHAPE, program), True)
        self.assertEqual(plain(SHAPE, program, 2000), told_form)
        kinds = [part[0] for part in parts(program[2])]
        self.assertEqual(set(kinds) - {"name", "fixed", "do", "let"}, set())
        self.assertEqual(kinds.count("do"), [node[0] for node in told_form[0]].count("do"))
        return program

    def test_small(self):
        self.assertEqual(self.check(form(A), 0), ((), (), A))
        self.assertEqual(self.check(form(IN), 1), (("a",), (), ("name", "a")))
        self.assertEqual(self.check(form(("input", 1)), 3), (("a", "b", "c"), (), ("name", "b")))
        self.assertEqual(self.check(form(IN, s(0)), 1), (("a",), (), s(("name", "a"))))
        self.assertEqual(self.check(form(IN, mix(0, 0)), 2), (("a", "b"), (), mix(("name", "a"), ("name", "a"))))

    def test_used_twice(self):
        self.check(form(IN, s(0), mix(1, 1)), 1)
        self.check(form(IN, s(0), mix(1, 0)), 1)
        self.check(form(IN, s(0), s(1), mix(2, 1)), 1)
        self.check(form(IN, s(0), mix(1, 1), mix(2, 1), mix(2, 3)), 2)
        self.check(form(A, s(0), s(1), mix(2, 2), mix(3, 1), mix(4, 3)), 0)
        self.check(form(("input", 2), ("input", 1), mix(0, 1), IN, mix(2, 3), mix(4, 2)), 3)

    def test_as_many_inputs_as_asked_for(self):
        for inputs in range(4):
            self.check(form(A, s(0), mix(1, 1)), inputs)
        for inputs in range(2, 4):
            self.check(form(IN, s(0), mix(1, 1), ("input", 1), mix(2, 3)), inputs)

    def test_made_forms(self):
        for program in [read_program(text) for text, turns in RUNS] + made_programs(11, 120, 60):
            told_form = plain(SHAPE, program, 60)
            inputs = len(program[0])
            told = self.check(told_form, inputs)
            for things in itertools.product(range(3), repeat=inputs):
                self.assertEqual(run(SHAPE, told, WORLD, things, 60)[0], value(SHAPE, told_form, WORLD, things))

    def test_great_forms(self):
        for body in ("(s y)", "(mix y y)", "(mix (s y) y)", "(mix x y)"):
            program = read_program(f"inputs x\ntell (loop #i 660 y x {body})")
            told = self.check(plain(SHAPE, program, 2000), 1)
            self.assertEqual(plain(SHAPE, read_program(program_text(told)), 2000), plain(SHAPE, program, 2000))

    def test_names_are_unlike(self):
        program = program_of(form(*[IN] + [mix(k, k) for k in range(1500)]), 1)
        names = [part[1] for part in parts(program[2]) if part[0] == "let"]
        self.assertEqual((len(names), len(set(names))), (1499, 1499))

    def test_what_is_handed_in_stays(self):
        told_form = form(IN, s(0), mix(1, 1))
        first = program_of(told_form, 1)
        program_of(form(A, s(0), s(1), mix(2, 2)), 3)
        self.assertEqual(program_of(told_form, 1), first)

    def test_by_name(self):
        self.assertEqual(program_of(form=form(A), inputs=1), (("a",), (), A))


if __name__ == "__main__":
    unittest.main()
