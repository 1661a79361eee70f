import unittest

from samples import NUMBERS, PROGRAMS, SHAPE, SHAPE_TEXT, TERMS, X, nested, nested_number
from shapefree.errors import BadText
from shapefree.reader import read_program, read_shape
from shapefree.words import is_name
from shapefree.writer import program_text, shape_text

KEPT = "inputs def tell let loop pick call world shape".split()


class Reading(unittest.TestCase):
    def refuse(self, ask, text, at):
        with self.assertRaises(BadText, msg=repr(text)) as caught:
            ask(text)
        self.assertEqual(caught.exception.at, at, repr(text))

    def made_of_plain_things(self, thing):
        if isinstance(thing, tuple):
            for one in thing:
                self.made_of_plain_things(one)
        else:
            self.assertIn(thing.__class__, (str, int))


class TestReadProgram(Reading):
    def bad_terms(self, texts):
        for text in texts:
            self.refuse(read_program, "inputs x\ntell " + text, 1)
            self.refuse(read_program, "inputs x\ndef f = x\ndef g = " + text + "\ntell x", 2)

    def test_programs(self):
        for program, text in PROGRAMS:
            self.assertEqual(read_program(text), program)
            self.made_of_plain_things(read_program(text))

    def test_terms(self):
        for term, text in TERMS:
            self.assertEqual(read_program("inputs\ntell " + text), ((), (), term))
            self.assertEqual(read_program("inputs\ndef f = " + text + "\ntell x"), ((), (("f", (), term),), X))

    def test_numbers(self):
        for number, text in NUMBERS:
            self.assertEqual(read_program("inputs\ntell (pick " + text + " x)")[2], ("pick", number, (X,)))
            self.assertEqual(read_program("inputs\ntell (call f " + text + ")")[2], ("call", "f", (number,)))

    def test_deep(self):
        for depth in (1, 15, 400):
            term, text = nested(depth)
            self.assertEqual(read_program("inputs\ntell " + text)[2], term)
            number, text = nested_number(depth)
            self.assertEqual(read_program("inputs\ntell (call f " + text + ")")[2], ("call", "f", (number,)))
        term, text = nested(3000)
        program = read_program("inputs\ntell " + text)
        self.assertEqual(program_text(program), "inputs\ntell " + text)

    def test_written_and_read_again(self):
        for program, text in PROGRAMS:
            self.assertEqual(read_program(program_text(program)), program)
            self.assertEqual(program_text(read_program(text)), text)

    def test_bad_words(self):
        self.bad_terms(["", "1", "0", "#i", "[1 + 2]", "Ab_", "x1", "aB", "AB", "abcdefg", "Abcdefg", "x.", "-", "=",
                        "|", "x=y", "#", "##i", "x\t", "x\r", "\u00e9"] + KEPT)

    def test_bad_brackets(self):
        self.bad_terms(["(", ")", "()", "(s x", "s x)", "(s x))", "((s x)", "((s x))", "(x)", "[x]", "[s x]", "(s x]",
                        "(s [x])", "(s (x))", "x)", "(s x)(s x)", "(s x) x", "x x", "x (s x)", "(s x)y", "y(s x)",
                        "(s(s x))", "(s (s x)x)", "(s x(s x))", "((s) x)", "(s )x", ")x(", "(pick [1 + 2) x)",
                        "(pick (1 + 2) x)", "(pick (1 + 2] x)", "(s ())", "(s x) )", "[", "]", "[]", "(s )", "x (s", "x (s x", "x [1", "x (let", "((s x) (s", "[ x", "( x", "x ]",
                        "(s x))(", "()x", "x()", "(s x()"])

    def test_bad_blanks(self):
        self.bad_terms([" x", "x ", "( s x)", "(s x )", "(s  x)", "(s x  y)", "(s (s x) )", "(s ( s x))", "(s x) ",
                        " (s x)", "(s\tx)", "(pick [ 1 + 2] x)", "(pick [1 + 2 ] x)", "(pick [1+2] x)",
                        "(pick [1 +2] x)", "(pick [1+ 2] x)", "(pick [1  + 2] x)", "(pick [1 +  2] x)", "(call f )",
                        "(call  f)", "(pick [1 + 2]x)", "(pick[1 + 2] x)", "(pick # i x)", "(pick 1 2 x)"])

    def test_bad_dos(self):
        self.bad_terms(["(s)", "(S x)", "(abcdefg x)", "(s 1)", "(s #i)", "(s x [1 + 2])", "(#s x)", "(1 x)",
                        "((s x) x)", "(s x 0)"] + ["(" + word + " x)" for word in KEPT if word != "call"])

    def test_bad_lets(self):
        self.bad_terms(["(let)", "(let x)", "(let x x)", "(let x x x x)", "(let A x x)", "(let #x x x)", "(let 1 x x)",
                        "(let (s x) x x)", "(let x 1 x)", "(let x x 1)", "(let x #i x)", "(let x x [1 + 2])",
                        "(let let x x)", "(let abcdefg x x)", "(Let x x x)"])

    def test_bad_loops(self):
        self.bad_terms(["(loop)", "(loop #i 1 x x)", "(loop #i 1 x x x x)", "(loop i 1 x x x)", "(loop #I 1 x x x)",
                        "(loop #loop 1 x x x)", "(loop 1 1 x x x)", "(loop #i x x x x)", "(loop #i (s x) x x x)",
                        "(loop #i 1 #x x x)", "(loop #i 1 A x x)", "(loop #i 1 (s x) x x)", "(loop #i 1 x 1 x)",
                        "(loop #i 1 x x 1)", "(loop #i 1 tell x x)", "(loop [1 + 2] 1 x x x)", "(loop # 1 x x x)",
                        "(loop (s x) 1 x x x)", "(loop x #i 1 x x)"])

    def test_bad_picks(self):
        self.bad_terms(["(pick)", "(pick 1)", "(pick x)", "(pick x x)", "(pick (s x) x)", "(pick 1 1)", "(pick 1 x 1)",
                        "(pick 1 #i)", "(pick 1 x [1 + 2])", "(pick #1 x)", "(pick #A x)", "(pick #let x)",
                        "(pick #abcdefg x)", "(pick A x)"])

    def test_bad_calls(self):
        self.bad_terms(["(call)", "(call F)", "(call #f)", "(call 1)", "(call (s x))", "(call call)", "(call def)",
                        "(call f abcdefg)", "(call f 01)", "(call f let)", "(call abcdefg x)", "(call f #)"])

    def test_bad_numbers(self):
        texts = ["00", "01", "000000", "1234567", "1000000", "0000001", "-1", "+1", "1.", "1_0", "1e3", "x1", "\u0661",
                 "\u00b2", "[1 2]", "[1 + 2 + 3]", "[1 - 2]", "[1 / 2]", "[1 = 2]", "[1 > 2]", "[1 ++ 2]", "[+ 1 2]",
                 "[1 + x]", "[x + 1]", "[1 + (s x)]", "[(s x) + 1]", "[1 + ]", "[1 +]", "[+]", "[1]", "[[1 + 2]]",
                 "[1 [1 + 2] 3]", "[1 + 01]", "[1 + #let]", "[[1 + 2] + [3 + 4]", "[1 x 2]", "[A + 1]"]
        self.bad_terms(["(pick " + text + " x)" for text in texts])
        self.bad_terms(["(call f " + text + ")" for text in texts if text != "x1"])

    def test_first_rows(self):
        for row in ["", "input", "Inputs", "inputs ", " inputs", "inputs  x", "inputs x ", "inputs x  y", "inputs 1",
                    "inputs A", "inputs #i", "inputs x,y", "inputsx", "inputs (s x)", "tell x", "def f = x", "inputs =",
                    "inputs abcdefg", "world 1", "shape |", "inputs\tx", "inputs\r"] + ["inputs " + k for k in KEPT]:
            self.refuse(read_program, row, 0)
            self.refuse(read_program, row + "\ntell x", 0)
            self.refuse(read_program, row + "\nno row\n", 0)

    def test_heads(self):
        for row in ["def", "def ", "def f", "def f x", "def = x", "def  = x", "def f=x", "def f =x", "def f= x",
                    "def f =", "def f = ", "def f  = x", "def f =  x", "def F = x", "def #f = x", "def f A = x",
                    "def f 1 = x", "def f # = x", "def f #A = x", "def f ##i = x", "def f x  y = x", "def  f = x",
                    "def f x = = x", "def f = x = x", "def f (s x) = x", "def f x #i", "Def f = x", " def f = x",
                    "def f = x ", "def f [1 + 2] = x", "def abcdefg = x", "def f abcdefg = x", "def f #abcdefg = x",
                    "def f i# = x", "def f == x", "f = x", "inputs", "inputs x", "", " ", "tell", "Tell x", " tell x",
                    "tellx", "world 1", "(s x)", "x", "tell\tx"]:
            for ahead in ("inputs x\n", "inputs\ndef f = x\n", "inputs\ndef f = x\ndef f #i = A\n"):
                at = ahead.count("\n")
                self.refuse(read_program, ahead + row, at)
                self.refuse(read_program, ahead + row + "\ntell x", at)
        for word in KEPT:
            self.refuse(read_program, "inputs\ndef " + word + " = x\ntell x", 1)
            self.refuse(read_program, "inputs\ndef f " + word + " = x\ntell x", 1)
            self.refuse(read_program, "inputs\ndef f #" + word + " = x\ntell x", 1)

    def test_rows_lacking(self):
        self.refuse(read_program, "", 0)
        self.refuse(read_program, "inputs", 1)
        self.refuse(read_program, "inputs x y", 1)
        self.refuse(read_program, "inputs\n", 1)
        self.refuse(read_program, "inputs\ndef f = x", 2)
        self.refuse(read_program, "inputs\ndef f = x\ndef g = x", 3)
        self.refuse(read_program, "inputs\ndef f = x\n", 2)

    def test_rows_more(self):
        for row in ("", "tell x", "def f = x", "inputs", "no row"):
            self.refuse(read_program, "inputs\ntell x\n" + row, 2)
            self.refuse(read_program, "inputs\ndef f = x\ntell x\n" + row, 3)
            self.refuse(read_program, "inputs\ntell x\n" + row + "\n" + row, 2)
        self.refuse(read_program, "inputs\ntell 1\ntell x", 1)
        self.refuse(read_program, "\ninputs\ntell x", 0)
        self.refuse(read_program, "inputs\n\ntell x", 1)

    def test_rows_exchanged(self):
        self.refuse(read_program, "tell x\ninputs", 0)
        self.refuse(read_program, "def f = x\ninputs\ntell x", 0)
        self.refuse(read_program, "inputs\ntell x\ndef f = x", 2)

    def test_rows_broken_within_brackets(self):
        self.refuse(read_program, "inputs\ntell (s\nx)", 1)
        self.refuse(read_program, "inputs\ndef f =\nx\ntell x", 1)

    def check_changed(self, ask, write, text, signs):
        """Whatever is read of a changed text writes that text, else the changed row is refused."""
        for k in range(len(text)):
            for new in [text[:k] + text[k + 1:]] + [text[:k] + sign + text[k:] for sign in signs] + [
                    text[:k] + sign + text[k + 1:] for sign in signs]:
                try:
                    told = ask(new)
                except BadText as error:
                    if text[k] != "\n":
                        self.assertEqual(error.at, text[:k].count("\n"), repr(new))
                else:
                    self.assertEqual(write(told), new)

    def test_one_sign_changed(self):
        for program, text in PROGRAMS:
            self.check_changed(read_program, program_text, text, " ()[]#=+0aA|")

    def test_one_sign_of_a_shape_changed(self):
        self.check_changed(read_shape, shape_text, SHAPE_TEXT, " |/12aA#")

    def test_names_are_names(self):
        inputs = read_program("inputs input thing fixed num\ntell input")[0]
        self.assertTrue(all(is_name(text) for text in inputs))

    def test_by_name(self):
        self.assertEqual(read_program(text="inputs\ntell x"), ((), (), X))
        self.assertEqual(read_shape(text=SHAPE_TEXT), SHAPE)


class TestReadShape(Reading):
    def test_shapes(self):
        for shape, text in (
                (SHAPE, SHAPE_TEXT),
                (((), ()), "shape |"),
                ((("A",), ()), "shape A |"),
                (((), (("d", 2),)), "shape | d/2"),
                ((("Abcdef",), (("abcdef", 1),)), "shape Abcdef | abcdef/1"),
        ):
            self.assertEqual(read_shape(text), shape)
            self.assertEqual(shape_text(read_shape(text)), text)
            self.made_of_plain_things(read_shape(text))

    def test_names_twice_and_any_size(self):
        self.assertEqual(read_shape("shape A B A | d/1 e/2 d/2"), (("A", "B", "A"), (("d", 1), ("e", 2), ("d", 2))))
        text = "shape" + " A" * 50 + " |" + " d/2" * 50
        self.assertEqual(read_shape(text), (("A",) * 50, (("d", 2),) * 50))

    def test_none(self):
        for row in ["", "shape", "shape ", "shape A", "shape d/1", "Shape |", "shape|", "shape | ", "shape  |",
                    " shape |", "shape |d/1", "shape A| d/1", "shape | d", "shape | d/", "shape | /1", "shape | d/0",
                    "shape | d/3", "shape | d/12", "shape | d/01", "shape | D/1", "shape | A", "shape a | d/1",
                    "shape A | | d/1", "shape | |", "shape | let/1", "shape | abcdefg/1", "shape Abcdefg |",
                    "shape A  B |", "shape A |  d/1", "shape | d/1  e/1", "shape | d/1 ", "shape | d/ 1", "shape | d /1",
                    "shape d/1 | A", "| shape", "A | d/1", "world 1", "shape AB |", "shape 1 |", "shape | d/1/1",
                    "shape | d-1", "shape | d1", "shape\t|"] + ["shape | " + word + "/1" for word in KEPT]:
            self.refuse(read_shape, row, 0)
            self.refuse(read_shape, row + "\n", 0)
            self.refuse(read_shape, row + "\nshape |", 0)

    def test_a_row_more(self):
        for row in ("", "shape |", "x", "\n"):
            self.refuse(read_shape, SHAPE_TEXT + "\n" + row, 1)
            self.refuse(read_shape, "shape |\n" + row, 1)


if __name__ == "__main__":
    unittest.main()
