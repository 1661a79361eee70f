import itertools
import unittest

from drawn import Drawer, small_cases
from samples import (CHAIN, ONE, PAIR, RUNS, SHAPE, SHAPE_TEXT, WORLD, WORLDS, made_pairs, made_programs,
                     run_by)
from shapefree.alike import alike, parts_at
from shapefree.closing import told
from shapefree.desk import Desk
from shapefree.errors import BadText, NoName, NoRow, ShapeError, TooLong, TooMany, Twice, WrongCount
from shapefree.formed import program_of
from shapefree.given import follows, parts_given
from shapefree.moves import moves
from shapefree.opened import opened
from shapefree.plain import depth, plain
from shapefree.reader import read_program
from shapefree.steps import walked
from shapefree.terms import parts
from shapefree.worldtexts import read_world, world_text
from shapefree.writer import program_text, shape_text

LONG = "inputs x ; tell (loop #i 501 y x y)"


def in_row(text):
    return text.replace("\n", " ; ")


class DeskCase(unittest.TestCase):
    def setUp(self):
        """A desk with programs of no, one and two inputs, and worlds."""
        self.desk = Desk(SHAPE_TEXT)
        self.keep("same", "inputs x ; tell x")
        self.keep("once", "inputs x ; tell (s x)")
        self.keep("thrice", "inputs x ; tell (loop #i 3 y x (s y))")
        self.keep("both", "inputs x y ; tell (mix (s y) x)")
        self.keep("bee", "inputs ; tell Bee")
        self.keep("none", "inputs ; tell (s A)")
        self.keep("long", LONG)
        for name, world in zip(("w", "o", "c", "p"), WORLDS):
            self.keep(name, in_row(world_text(SHAPE, world)))

    def keep(self, name, text):
        self.assertEqual(self.desk.say(f"keep {name} {text}"), "kept")

    def check(self, row, said):
        self.assertEqual(self.desk.say(row), said, row)
        self.assertIs(self.desk.say(row).__class__, str)

    def refuse(self, row, error, **fields):
        with self.assertRaises(ShapeError) as caught:
            self.desk.say(row)
        self.assertIs(caught.exception.__class__, error, row)
        for field, value in fields.items():
            self.assertEqual(getattr(caught.exception, field), value, row)


class TestMade(unittest.TestCase):
    def refuse(self, text, error, **fields):
        with self.assertRaises(ShapeError) as caught:
            Desk(text)
        self.assertIs(caught.exception.__class__, error, text)
        for field, value in fields.items():
            self.assertEqual(getattr(caught.exception, field), value, text)

    def test_bad_texts(self):
        for text in ("", "shape", "shape A", "shape a | s/1", "shape | s", "shape | s/3", "shape  |", "Shape |",
                     "inputs\ntell A", "shape | A/1", "shape A | s/1 "):
            self.refuse(text, BadText, at=0)
        self.refuse("shape |\n", BadText, at=1)
        self.refuse("shape A | s/1\nshape |", BadText, at=1)

    def test_twice(self):
        self.refuse("shape A B A |", Twice, name="A")
        self.refuse("shape A B B A |", Twice, name="B")
        self.refuse("shape | s/1 e/2 s/1", Twice, name="s")
        self.refuse("shape | s/1 s/2 e/1 e/1", Twice, name="s")
        self.refuse("shape A | e/1 s/1 s/2 e/1", Twice, name="s")
        self.refuse("shape A A | s/1 s/1", Twice, name="A")
        self.refuse("shape A A | s/1 s/1\n", BadText, at=1)

    def test_let_by(self):
        for text in ("shape |", "shape A B C D | s/1 e/2 d/1 a/2", "shape A | a/1 input/2"):
            desk = Desk(text)
            with self.assertRaises(NoName):
                desk.say("plain p")

    def test_by_name(self):
        self.assertEqual(Desk(text="shape |").say(row="keep p inputs x ; tell x"), "kept")


class TestKeep(DeskCase):
    def test_programs(self):
        for text in ("inputs ; tell A", "inputs x y w ; tell (mix x w)",
                     "inputs x ; def f y #i = (loop #i #i z y (s z)) ; def g = Bee ; tell (mix (call f x 2) (call g))"):
            self.check("keep q " + text, "kept")
            said = self.desk.say("plain q")
            self.assertNotEqual(said, "")

    def test_worlds(self):
        for world in WORLDS:
            self.check("keep q " + in_row(world_text(SHAPE, world)), "kept")
            self.check("moves q q", " ".join(",".join(map(str, move)) for move in moves(SHAPE, world, world)))

    def test_no_row(self):
        for row in ("keep", "keep ", "keep q", "keep Q inputs ; tell A", "keep  inputs ; tell A",
                    "keep let inputs ; tell A", "keep world world 1", "keep abcdefg inputs ; tell A",
                    "keep q1 inputs ; tell A", "keep q inputs\ntell A", "keep q inputs ; tell A\n",
                    "keep q\ninputs ; tell A", " keep q inputs ; tell A", "keeping q inputs ; tell A",
                    "Keep q inputs ; tell A", "keep\tq inputs ; tell A"):
            self.refuse(row, NoRow)
        self.refuse("plain q", NoName, name="q")

    def test_bad_texts(self):
        self.refuse("keep q ", BadText, at=0)
        self.refuse("keep q  ", BadText, at=0)
        self.refuse("keep q  inputs ; tell A", BadText, at=0)
        self.refuse("keep q inputs", BadText, at=1)
        self.refuse("keep q inputs ; ", BadText, at=1)
        self.refuse("keep q inputs ; tell A ", BadText, at=1)
        self.refuse("keep q inputs ; tell A ; ", BadText, at=2)
        self.refuse("keep q inputs ; tell A ; tell A", BadText, at=2)
        self.refuse("keep q inputs; tell A", BadText, at=0)
        self.refuse("keep q inputs ;tell A", BadText, at=0)
        self.refuse("keep q inputs ;  ; tell A", BadText, at=1)
        self.refuse("keep q inputs ; def f = (s ; tell A", BadText, at=1)
        self.refuse("keep q tell A", BadText, at=0)
        self.refuse("keep q ; tell A", BadText, at=0)
        self.refuse("keep q shape A |", BadText, at=0)

    def test_bad_worlds(self):
        self.refuse("keep q world", BadText, at=0)
        self.refuse("keep q worlds 2", BadText, at=0)
        self.refuse("keep q world 0", BadText, at=0)
        self.refuse("keep q world 02 ; A 0 ; Bee 0 ; s 0 0 ; mix 0 0 0 0", BadText, at=0)
        self.refuse("keep q world 2", BadText, at=1)
        self.refuse("keep q world 2 ; A 0 ; Bee 2 ; s 0 0 ; mix 0 0 0 0", BadText, at=2)
        self.refuse("keep q world 2 ; A 0 ; Bee 1 ; s 0 0 ; mix 0 0 0", BadText, at=4)
        self.refuse("keep q world 2 ; A 0 ; Bee 1 ; s 0 0 ; mix 0 0 0 0 ; t 0", BadText, at=5)

    def test_what_is_not_let_by(self):
        self.refuse("keep q inputs x x ; tell C", Twice, name="x")
        self.refuse("keep q inputs ; def f = A ; def f = A ; tell A", Twice, name="f")
        self.refuse("keep q inputs ; tell C", NoName, name="C")
        self.refuse("keep q inputs ; tell (t A)", NoName, name="t")
        self.refuse("keep q inputs ; tell x", NoName, name="x")
        self.refuse("keep q inputs ; tell (s A A)", WrongCount, name="s")
        self.refuse("keep q inputs ; def f x = x ; tell (call f 1)", WrongCount, name="f")
        # A text that is none is refused ahead of what would not be let by.
        self.refuse("keep q inputs x x ; tell (s C", BadText, at=1)

    def test_kept_anew(self):
        self.keep("q", "inputs ; tell A")
        self.check("plain q", "fixed A")
        self.keep("q", "inputs ; tell Bee")
        self.check("plain q", "fixed Bee")

    def test_kept_anew_as_the_other_sort(self):
        self.keep("q", "inputs ; tell A")
        self.keep("q", in_row(world_text(SHAPE, ONE)))
        self.refuse("plain q", NoName, name="q")
        self.check("moves q q", "0")
        self.keep("q", "inputs ; tell Bee")
        self.refuse("moves q q", NoName, name="q")
        self.check("plain q", "fixed Bee")

    def test_what_is_refused_changes_nothing(self):
        self.keep("q", "inputs ; tell A")
        for text in ("", "inputs", "inputs ; tell C", "inputs x x ; tell x", "world 2", "world", "inputs ; tell (s A A)"):
            with self.assertRaises(ShapeError):
                self.desk.say("keep q " + text)
            self.check("plain q", "fixed A")
            with self.assertRaises(ShapeError):
                self.desk.say("keep w " + text)
            self.check("moves w w", "0,1,2")
            with self.assertRaises(ShapeError):
                self.desk.say("keep new " + text)
            self.refuse("plain new", NoName, name="new")

    def test_names_of_rows_are_names(self):
        for name in ("keep", "run", "plain", "alike", "by", "given", "input", "at"):
            self.keep(name, "inputs ; tell A")
            self.check("plain " + name, "fixed A")

    def test_two_desks(self):
        other = Desk("shape C | s/2")
        self.assertEqual(other.say("keep once inputs ; tell (s C C)"), "kept")
        self.check("plain once", "input 0 | s 0")
        self.assertEqual(other.say("plain once"), "fixed C | s 0 0")
        with self.assertRaises(NoName):
            other.say("plain thrice")
        self.keep("once", "inputs ; tell A")
        self.assertEqual(other.say("plain once"), "fixed C | s 0 0")

    def test_great_texts(self):
        desk = Desk("shape A | s/1")
        text = "inputs x ; def f y = " + "(s " * 13 + "y" + ")" * 13 + " ; tell (call f (call f (call f x)))"
        self.assertEqual(desk.say("keep p " + text), "kept")
        self.assertEqual(desk.say("plain p"), " | ".join(["input 0"] + [f"s {k}" for k in range(39)]))
        world = (40, (7,), (tuple((7 * k + 3) % 40 for k in range(40)),))
        self.assertEqual(desk.say("keep w " + in_row(world_text((("A",), (("s", 1),)), world))), "kept")
        self.assertEqual(desk.say("run p w 39").split(" ")[2:], ["turns", "42"])


class TestRun(DeskCase):
    def test_said(self):
        self.check("run same w 2", "tells 2 turns 0")
        self.check("run once w 2", "tells 0 turns 1")
        self.check("run thrice c 0", "tells 3 turns 6")
        self.check("run both w 1 2", "tells 1 turns 2")
        self.check("run bee w", "tells 2 turns 0")
        self.check("run none p", "tells 0 turns 1")

    def test_programs(self):
        for text, turns in RUNS:
            program = read_program(text)
            self.keep("q", in_row(text))
            for name, world in zip("wocp", WORLDS):
                for inputs in itertools.product(range(world[0]), repeat=len(program[0])):
                    thing, many = run_by(program, world, inputs)
                    self.assertEqual(many, turns)
                    row = " ".join(["run q", name] + [str(k) for k in inputs])
                    self.check(row, f"tells {thing} turns {turns}")

    def test_no_row(self):
        for row in ("run", "run once", "run ", "run once ", "run once w ", "run once w  2", "run once  w 2",
                    " run once w 2", "run once w 2 ", "run once w x", "run once w 02", "run once w -1",
                    "run once w 1000000", "run once w 1,2", "run once w #i", "run Once w 1", "run once W 1",
                    "run once 1", "run 1 w", "run once w 1\n", "run let w 1", "run once\nw 1", "run once w 1;",
                    "RUN once w 1", "run once shape 1"):
            self.refuse(row, NoRow)

    def test_names(self):
        self.refuse("run q w 1", NoName, name="q")
        self.refuse("run once q 1", NoName, name="q")
        self.refuse("run q v 1", NoName, name="q")
        self.refuse("run w once 1", NoName, name="w")
        self.refuse("run once same 1", NoName, name="same")
        self.refuse("run w w 1", NoName, name="w")

    def test_counts(self):
        self.refuse("run once w", NoRow)
        self.refuse("run once w 1 1", NoRow)
        self.refuse("run bee w 0", NoRow)
        self.refuse("run both w 1", NoRow)
        self.refuse("run once w 3", NoRow)
        self.refuse("run once o 1", NoRow)
        self.refuse("run both p 0 2", NoRow)
        self.refuse("run once w 999999", NoRow)

    def test_names_come_ahead_of_counts(self):
        self.refuse("run q w", NoName, name="q")
        self.refuse("run once q", NoName, name="q")
        self.refuse("run once q 999999", NoName, name="q")
        self.refuse("run q w 01", NoRow)

    def test_too_long(self):
        self.refuse("run long w 1", TooLong, most=500)
        self.keep("just", "inputs x ; tell (loop #i 500 y x y)")
        self.check("run just w 1", "tells 1 turns 500")
        self.keep("just", "inputs x ; tell (loop #i 250 y x (s y))")
        self.check("run just w 1", "tells 2 turns 500")
        # What hinders otherwise comes ahead of it.
        self.refuse("run long w 3", NoRow)
        self.refuse("run long w", NoRow)
        self.refuse("run long q 1", NoName, name="q")


class TestPlain(DeskCase):
    def test_said(self):
        self.check("plain same", "input 0")
        self.check("plain bee", "fixed Bee")
        self.check("plain thrice", "input 0 | s 0 | s 1 | s 2")
        self.check("plain both", "input 1 | s 0 | input 0 | mix 1 2")
        self.keep("q", "inputs ; tell (let x (mix A A) (mix x x))")
        self.check("plain q", "fixed A | mix 0 0 | mix 1 1")

    def test_a_deed_called_input(self):
        desk = Desk("shape A | input/1 fixed/2")
        desk.say("keep q inputs x ; tell (fixed (input (input x)) A)")
        self.assertEqual(desk.say("plain q"), "input 0 | input 0 | input 1 | fixed A | fixed 2 3")

    def test_programs(self):
        for program in made_programs(80, 60, 200):
            self.keep("q", in_row(program_text(program)))
            nodes = []
            for node in plain(SHAPE, program, 500)[0]:
                nodes.append(" ".join(map(str, node if node[0] != "do" else (node[1],) + node[2])))
            self.check("plain q", " | ".join(nodes))

    def test_no_row(self):
        for row in ("plain", "plain ", "plain same ", "plain  same", " plain same", "plain same same", "plain 1",
                    "plain A", "plain same\n", "\nplain same", "plains same", "Plain same", "plain def"):
            self.refuse(row, NoRow)

    def test_names(self):
        self.refuse("plain q", NoName, name="q")
        self.refuse("plain w", NoName, name="w")

    def test_too_long(self):
        self.refuse("plain long", TooLong, most=500)
        self.keep("just", "inputs x ; tell (loop #i 500 y x y)")
        self.check("plain just", "input 0")


class TestAlike(DeskCase):
    def part(self, row, one, other):
        """What is said of two programs that part, read again."""
        head, text, tail = self.read_part(self.desk.say(row))
        world = read_world(SHAPE, text)
        inputs = tuple(int(word) for word in tail)
        told_part = alike(SHAPE, one, other, 500)
        self.assertEqual(("part", world, inputs), told_part)
        self.assertTrue(parts_at(SHAPE, one, other, world, inputs, 500))

    def read_part(self, said):
        self.assertTrue(said.startswith("part world "), said)
        text, tail = said[len("part "):].split(" at")
        self.assertTrue(tail == "" or tail[0] == " ")
        return "part", text.replace(" ; ", "\n"), tail.split(" ")[1:]

    def test_alike(self):
        self.check("alike same same", "alike")
        self.keep("q", "inputs y ; tell (let x (s y) x)")
        self.check("alike q once", "alike")
        self.check("alike bee bee", "alike")

    def test_part(self):
        self.check("alike bee none", "part " + in_row(world_text(SHAPE, alike(
            SHAPE, read_program("inputs\ntell Bee"), read_program("inputs\ntell (s A)"), 500)[1])) + " at")
        texts = {"same": "inputs x\ntell x", "once": "inputs x\ntell (s x)",
                 "thrice": "inputs x\ntell (loop #i 3 y x (s y))"}
        for one, other in itertools.permutations(texts, 2):
            self.part(f"alike {one} {other}", read_program(texts[one]), read_program(texts[other]))

    def test_without_inputs_it_ends_with_at(self):
        said = self.desk.say("alike bee none")
        self.assertTrue(said.endswith(" at"), said)

    def test_programs(self):
        seen = {True: 0, False: 0}
        for one, other in zip(made_programs(81, 80, 60, 2), made_programs(82, 80, 60, 2)):
            self.keep("one", in_row(program_text(one)))
            self.keep("other", in_row(program_text(other)))
            same = plain(SHAPE, one, 60) == plain(SHAPE, other, 60)
            if same:
                self.check("alike one other", "alike")
            else:
                self.part("alike one other", one, other)
            seen[same] += 1
        self.assertGreater(min(seen.values()), 3)

    def test_no_row(self):
        for row in ("alike", "alike same", "alike same ", "alike same once ", "alike same  once",
                    "alike same once bee", "alike same 1", "alike A same", "alike same once\n"):
            self.refuse(row, NoRow)

    def test_names(self):
        self.refuse("alike q r", NoName, name="q")
        self.refuse("alike same r", NoName, name="r")
        self.refuse("alike same w", NoName, name="w")
        self.refuse("alike w q", NoName, name="w")
        self.refuse("alike q bee", NoName, name="q")

    def test_counts(self):
        self.refuse("alike same bee", NoRow)
        self.refuse("alike both same", NoRow)
        self.refuse("alike bee both", NoRow)
        self.refuse("alike long bee", NoRow)

    def test_too_long(self):
        self.refuse("alike long same", TooLong, most=500)
        self.refuse("alike same long", TooLong, most=500)
        self.refuse("alike long long", TooLong, most=500)


class TestFollows(DeskCase):
    read_part = TestAlike.read_part

    def part(self, row, inputs, givens, question):
        head, text, tail = self.read_part(self.desk.say(row))
        told_part = follows(SHAPE, inputs, givens, question)
        self.assertEqual(("part", read_world(SHAPE, text), tuple(int(word) for word in tail)), told_part)
        self.assertTrue(parts_given(SHAPE, givens, question, told_part[1], told_part[2]))

    def forms(self, *texts):
        return [plain(SHAPE, read_program(text), 500) for text in texts]

    def test_follows(self):
        same, once, thrice = self.forms("inputs x\ntell x", "inputs x\ntell (s x)", "inputs x\ntell (s (s (s x)))")
        paper = follows(SHAPE, 1, ((same, once),), (thrice, same))[1]
        self.check("follows thrice same given same once", f"follows {len(paper)}")
        self.assertGreater(len(paper), 1)
        self.check("follows once once given", "follows 0")
        self.check("follows bee bee given", "follows 0")

    def test_part(self):
        same, once, thrice = self.forms("inputs x\ntell x", "inputs x\ntell (s x)", "inputs x\ntell (s (s (s x)))")
        self.part("follows once same given same thrice", 1, ((same, thrice),), (once, same))
        self.part("follows once same given", 1, (), (once, same))
        bee, none = self.forms("inputs\ntell Bee", "inputs\ntell (s A)")
        self.part("follows bee none given bee bee", 0, ((bee, bee),), (bee, none))
        self.assertTrue(self.desk.say("follows bee none given").endswith(" at"))

    def test_six_pairs(self):
        pairs = " same once once same thrice same same thrice same same once thrice"
        self.assertTrue(self.desk.say("follows same once given" + pairs).startswith("follows "))
        self.refuse("follows same once given" + pairs + " same same", NoRow)
        self.refuse("follows same once given" + pairs + " same", NoRow)
        self.refuse("follows same once given" + pairs + " q q", NoRow)

    def test_drawn(self):
        seen = {"follows": 0, "part": 0}
        for givens, question in made_pairs(83, 120):
            names = []
            for one in [one for pair in (question,) + givens for one in pair]:
                name = "n" + "abcdefghijklmnop"[len(names)]
                self.keep(name, in_row(program_text(program_of(one, 2))))
                names.append(name)
            row = " ".join(["follows"] + names[:2] + ["given"] + names[2:])
            found = follows(SHAPE, 2, givens, question)
            seen[found[0]] += 1
            if found[0] == "follows":
                self.check(row, f"follows {len(found[1])}")
            else:
                self.part(row, 2, givens, question)
        self.assertGreater(min(seen.values()), 20)

    def test_programs_called_given(self):
        self.keep("given", "inputs x ; tell (s x)")
        self.check("follows given given given", "follows 0")
        self.check("follows given once given given same", "follows 1")
        self.refuse("follows given given", NoRow)

    def test_no_row(self):
        for row in ("follows", "follows given", "follows same given", "follows same once", "follows same once same",
                    "follows same once given same", "follows same once given same once same",
                    "follows same once given ", "follows same once  given", "follows same once given  same once",
                    "follows same once Given", "follows same once given same 1", "follows same 1 given",
                    "follows same once by", "follows 1 1 given", "follows same once given same once ",
                    "follows same once given\n", "follows same given same once", "follows same once thrice given"):
            self.refuse(row, NoRow)

    def test_names(self):
        self.refuse("follows q r given", NoName, name="q")
        self.refuse("follows same r given s q", NoName, name="r")
        self.refuse("follows same once given same r", NoName, name="r")
        self.refuse("follows same once given w r", NoName, name="w")
        self.refuse("follows same bee given same w", NoName, name="w")

    def test_counts(self):
        self.refuse("follows same bee given", NoRow)
        self.refuse("follows same once given bee bee", NoRow)
        self.refuse("follows same once given same once bee same", NoRow)
        self.refuse("follows long once given bee bee", NoRow)

    def test_too_long(self):
        self.refuse("follows long same given", TooLong, most=500)
        self.refuse("follows same long given", TooLong, most=500)
        self.refuse("follows same same given once long", TooLong, most=500)


class TestTells(DeskCase):
    def test_said(self):
        self.check("tells 0 by w", "program 0")
        self.check("tells 2 by w", "program 0")
        self.check("tells 1 by w", "program 1")
        self.check("tells 0 by o", "program 0")
        self.check("tells 0 1 by w p", "program 0")

    def test_one_to_six_worlds(self):
        names = ("p", "w", "o", "p", "o", "w")
        worlds = (PAIR, WORLD, ONE, PAIR, ONE, WORLD)
        for many in range(1, 7):
            points = tuple((world, ()) for world in worlds[:many])
            for table in itertools.product(*[range(world[0]) for world in worlds[:many]]):
                found = told(SHAPE, points, table, 60)
                said = f"program {depth(found[1])}" if found[0] == "program" else "none"
                row = " ".join(["tells"] + [str(k) for k in table] + ["by"] + list(names[:many]))
                self.check(row, said)
        self.refuse("tells 0 0 0 0 0 0 0 by o o o o o o o", NoRow)
        self.check("tells 0 0 0 0 0 0 by o o o o o o", "program 0")

    def test_none(self):
        self.check("tells 0 1 by w w", "none")
        self.check("tells 1 0 by p p", "none")
        desk = Desk("shape | s/1")
        desk.say("keep w world 2 ; s 1 0")
        self.assertEqual(desk.say("tells 0 by w"), "none")
        self.assertEqual(desk.say("tells 1 0 by w w"), "none")

    def test_drawn(self):
        seen = {"program": 0, "none": 0}
        drawer = Drawer(84)
        for shape, points in small_cases(85, 80):
            desk = Desk(shape_text(shape))
            names = []
            for world, inputs in points:
                names.append("w" + "abcdef"[len(names)])
                self.assertEqual(desk.say("keep " + names[-1] + " " + in_row(world_text(shape, world))), "kept")
            table = drawer.row(points)
            try:
                found = told(shape, tuple((world, ()) for world, inputs in points), table, 60)
            except TooMany:
                continue
            said = f"program {depth(found[1])}" if found[0] == "program" else "none"
            seen[said.split(" ")[0]] += 1
            self.assertEqual(desk.say(" ".join(["tells"] + [str(k) for k in table] + ["by"] + names)), said)
        self.assertGreater(min(seen.values()), 5)

    def test_a_world_called_by(self):
        self.keep("by", in_row(world_text(SHAPE, WORLD)))
        self.check("tells 1 by by", "program 1")
        self.check("tells 1 1 by by by", "program 1")
        self.refuse("tells 1 by", NoRow)

    def test_no_row(self):
        for row in ("tells", "tells 1", "tells 1 by", "tells 1 w", "tells 1 by 1", "tells w by w", "tells 01 by w",
                    "tells 1 by  w", "tells  1 by w", "tells 1 by w ", "tells 1  by w", "tells 1 by W",
                    "tells -1 by w", "tells 1 By w", "tells 1 by w\n", "tells by", "tells 1,1 by w w"):
            self.refuse(row, NoRow)

    def test_names(self):
        self.refuse("tells 1 by q", NoName, name="q")
        self.refuse("tells 1 1 by w q", NoName, name="q")
        self.refuse("tells 1 1 by q r", NoName, name="q")
        self.refuse("tells 1 by same", NoName, name="same")
        self.refuse("tells 9 9 9 by w q", NoName, name="q")

    def test_counts(self):
        self.refuse("tells 1 1 by w", NoRow)
        self.refuse("tells 1 by w w", NoRow)
        self.refuse("tells by w", NoRow)
        self.refuse("tells 3 by w", NoRow)
        self.refuse("tells 0 1 by w o", NoRow)
        self.check("tells 2 0 by w o", "program 0")

    def test_too_many(self):
        desk = Desk("shape A B C | add/2")
        for name, n, fixed in (("a", 4, (1, 0, 0)), ("b", 4, (0, 1, 0)), ("c", 4, (0, 0, 1)), ("d", 3, (0, 0, 1))):
            table = tuple(tuple((x + y) % n for y in range(n)) for x in range(n))
            desk.say(f"keep {name} " + in_row(world_text((("A", "B", "C"), (("add", 2),)), (n, fixed, (table,)))))
        # Of a, b and d there are 48 rows, of a, b and c 64.
        self.assertEqual(desk.say("tells 1 0 0 by a b d"), "program 0")
        with self.assertRaises(TooMany) as caught:
            desk.say("tells 1 0 0 by a b c")
        self.assertEqual(caught.exception.most, 60)
        with self.assertRaises(NoRow):
            desk.say("tells 1 0 4 by a b c")


class TestMoves(DeskCase):
    def test_said(self):
        self.check("moves w w", "0,1,2")
        self.check("moves w o", "0,0,0")
        self.check("moves o w", "-")
        self.check("moves o o", "0")
        desk = Desk("shape | s/1")
        desk.say("keep a world 4 ; s 1 2 3 0")
        desk.say("keep b world 2 ; s 1 0")
        self.assertEqual(desk.say("moves a b"), "0,1,0,1 1,0,1,0")
        self.assertEqual(desk.say("moves b a"), "-")
        self.assertEqual(desk.say("moves a a"), "0,1,2,3 1,2,3,0 2,3,0,1 3,0,1,2")

    def test_drawn(self):
        drawer = Drawer(86)
        none = 0
        for k in range(100):
            shape = drawer.shape()
            worlds = drawer.world(shape), drawer.world(shape)
            desk = Desk(shape_text(shape))
            for name, world in zip("ab", worlds):
                desk.say(f"keep {name} " + in_row(world_text(shape, world)))
            found = moves(shape, worlds[0], worlds[1])
            none += not found
            said = " ".join(",".join(str(thing) for thing in move) for move in found)
            self.assertEqual(desk.say("moves a b"), said or "-")
        self.assertGreater(none, 10)

    def test_no_row(self):
        for row in ("moves", "moves w", "moves w ", "moves w o c", "moves w o ", "moves  w o", "moves w  o",
                    "moves W o", "moves w 1", "moves w o\n", "move w o", "moves w,o"):
            self.refuse(row, NoRow)

    def test_names(self):
        self.refuse("moves q r", NoName, name="q")
        self.refuse("moves w r", NoName, name="r")
        self.refuse("moves w same", NoName, name="same")
        self.refuse("moves same q", NoName, name="same")


class TestWhy(DeskCase):
    def test_said(self):
        self.check("why same", "0 1")
        self.check("why bee", "0 1")
        self.check("why both", "0 4")
        self.check("why thrice", "7 4")

    def test_programs(self):
        many = 0
        for program in made_programs(87, 80, 60):
            self.keep("q", in_row(program_text(program)))
            try:
                steps, term = walked(program[1], opened(program), 200)
            except TooMany:
                self.refuse("why q", TooMany, most=200)
                many += 1
                continue
            self.check("why q", f"{steps} {len(parts(term))}")
        self.assertLess(many, 20)

    def test_no_row(self):
        for row in ("why", "why ", "why same ", "why  same", "why same same", "why 1", "why same\n", "Why same"):
            self.refuse(row, NoRow)

    def test_names(self):
        self.refuse("why q", NoName, name="q")
        self.refuse("why w", NoName, name="w")

    def test_too_many(self):
        self.keep("q", "inputs x ; tell (loop #i 8 y x (mix y y))")
        self.refuse("why q", TooMany, most=200)
        # 127 parts are the last doubling that is let, written out.
        self.keep("q", "inputs x ; tell (loop #i 6 y x (mix y y))")
        self.check("why q", "13 127")

    def test_too_long(self):
        self.refuse("why long", TooLong, most=500)
        # TooMany parts would come as well.
        self.keep("q", "inputs x ; tell (loop #i 501 y x (mix y y))")
        self.refuse("why q", TooLong, most=500)
        self.keep("q", "inputs x ; tell (loop #i 999999 y x y)")
        self.refuse("why q", TooLong, most=500)
        # As many turns as are let, and more parts than that.
        self.keep("q", "inputs x ; tell (loop #i 500 y x y)")
        self.refuse("why q", TooMany, most=200)


class TestRows(DeskCase):
    def test_no_rows_at_all(self):
        for row in ("", " ", "  ", "\n", "x", "help", "keep\n", "plain;same", "same", "tell A", "inputs ; tell A",
                    "world 1", "shape |", "0", "plain same ; plain same"):
            self.refuse(row, NoRow)

    def test_no_text(self):
        for row in (None, 0, 1, True, (), ("plain", "same"), ["plain same"], {"plain": "same"}):
            self.refuse(row, NoRow)

    def test_the_same_again(self):
        rows = ("run once w 1", "plain both", "alike once thrice", "follows thrice same given same once",
                "tells 1 by w", "moves w o", "why thrice")
        first = [self.desk.say(row) for row in rows]
        for row in ("keep q inputs ; tell A", "plain q", "moves o w"):
            self.desk.say(row)
        for row in ("run q w 1", "keep once inputs ; tell C", "tells 9 by w", "nothing"):
            with self.assertRaises(ShapeError):
                self.desk.say(row)
        for row, said in reversed(list(zip(rows, first))):
            self.check(row, said)

    def test_worlds_and_programs_are_kept_apart_from_what_is_said(self):
        self.keep("v", in_row(world_text(SHAPE, CHAIN)))
        self.check("moves v c", self.desk.say("moves c c"))
        self.check("run once v 0", "tells 1 turns 1")


if __name__ == "__main__":
    unittest.main()
