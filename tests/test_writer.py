import unittest

from samples import NUMBERS, PROGRAMS, SHAPE, SHAPE_TEXT, TERMS, X, nested
from shapefree.writer import program_text, shape_text, term_text


class TestWriter(unittest.TestCase):
    def test_terms(self):
        for term, text in TERMS:
            self.assertEqual(term_text(term), text)

    def test_numbers_within_terms(self):
        for number, text in NUMBERS:
            self.assertEqual(term_text(("pick", number, (X,))), "(pick " + text + " x)")
            self.assertEqual(term_text(("loop", "k", number, "x", X, X)), "(loop #k " + text + " x x x)")
            self.assertEqual(term_text(("call", "f", (number, X, number))), "(call f " + text + " x " + text + ")")

    def test_deep_terms(self):
        for depth in (15, 3000):
            term, text = nested(depth)
            self.assertEqual(term_text(term), text)

    def test_programs(self):
        for program, text in PROGRAMS:
            self.assertEqual(program_text(program), text)
            self.assertEqual(program_text(program), text)

    def test_shapes(self):
        self.assertEqual(shape_text(SHAPE), SHAPE_TEXT)
        self.assertEqual(shape_text(((), ())), "shape |")
        self.assertEqual(shape_text((("A",), ())), "shape A |")
        self.assertEqual(shape_text(((), (("d", 2),))), "shape | d/2")
        many = (tuple("ABCDEFG"), tuple((name, 1) for name in "abcdefg"))
        self.assertEqual(shape_text(many), "shape A B C D E F G | a/1 b/1 c/1 d/1 e/1 f/1 g/1")

    def test_by_name(self):
        self.assertEqual(shape_text(shape=SHAPE), SHAPE_TEXT)
        self.assertEqual(program_text(program=PROGRAMS[0][0]), PROGRAMS[0][1])
        self.assertEqual(term_text(term=X), "x")


if __name__ == "__main__":
    unittest.main()
