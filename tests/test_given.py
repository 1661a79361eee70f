import itertools
import unittest

from samples import A, BEE, IN, IN_ONE, ONE, PAIR, SHAPE, WORLD, WORLDS, Pairs, chain, form, made_pairs, mix, s
from shapefree.given import follows, parts_given
from shapefree.joins import paper_holds
from shapefree.plain import plain, value
from shapefree.reader import read_program
from shapefree.worlds import look_world


class TestFollows(unittest.TestCase):
    def follow(self, givens, question, inputs=2, shape=SHAPE):
        told = follows(shape, inputs, givens, question)
        self.assertEqual((told.__class__, len(told), told[0]), (tuple, 2, "follows"), (givens, question))
        self.assertIs(told[1].__class__, tuple)
        self.assertTrue(all(row.__class__ is tuple for row in told[1]))
        self.assertIs(paper_holds(givens, question, told[1]), True)
        self.assertIs(Pairs(givens, question).holds(told[1]), True)

    def part(self, givens, question, inputs=2, shape=SHAPE):
        told = follows(shape, inputs, givens, question)
        self.assertEqual((told.__class__, len(told), told[0]), (tuple, 3, "part"), (givens, question))
        world, things = told[1:]
        self.assertIs(look_world(shape, world), True)
        self.assertEqual((things.__class__, len(things)), (tuple, inputs))
        self.assertTrue(all(0 <= thing < world[0] for thing in things))
        self.assertLessEqual(world[0], len(Pairs(givens, question).terms))
        for one, other in givens:
            self.assertEqual(value(shape, one, world, things), value(shape, other, world, things))
        values = [value(shape, one, world, things) for one in question]
        self.assertNotEqual(values[0], values[1])
        self.assertIs(parts_given(shape, givens, question, world, things), True)

    def test_one_given(self):
        givens = ((chain(0), chain(1)),)
        self.follow(givens, (chain(3), chain(0)))
        self.follow(givens, (chain(2), chain(7)))
        self.follow(givens, (chain(0), chain(1)))
        self.follow(givens, (chain(1), chain(0)))
        self.part(givens, (form(IN_ONE), form(IN_ONE, s(0))))
        self.part(givens, (form(IN), form(A)))
        self.part(givens, (form(IN, mix(0, 0)), form(IN)))
        self.follow(givens, (form(IN, mix(0, 0)), form(IN, s(0), mix(1, 0))))

    def test_several_givens(self):
        givens = ((chain(3), chain(0)), (chain(5), chain(0)))
        self.follow(givens, (chain(1), chain(0)))
        self.follow(givens, (chain(9), chain(2)))
        self.part(givens[:1], (chain(1), chain(0)))
        self.part(givens[1:], (chain(1), chain(0)))
        self.follow(givens[:1], (chain(9), chain(0)))
        self.part(((chain(4), chain(0)), (chain(6), chain(0))), (chain(1), chain(0)))
        self.follow(((chain(4), chain(0)), (chain(6), chain(0))), (chain(2), chain(0)))

    def test_likeness_again_and_again(self):
        givens = ((form(IN), form(IN_ONE)),)
        question = [[], []]
        for side, leaf in enumerate((IN, IN_ONE)):
            nodes = [leaf]
            for k in range(15):
                nodes.append(s(k) if k % 2 else mix(k, k))
            question[side] = form(*nodes)
        self.follow(givens, tuple(question))
        self.part((), tuple(question))
        # What is joined last lets do's be joined that stand ahead of it.
        givens = ((form(IN, s(0)), form(IN_ONE, s(0))), (form(A, s(0)), form(IN)), (form(BEE, s(0)), form(IN_ONE)),
                  (form(A), form(BEE)))
        self.follow(givens, (form(IN), form(IN_ONE)))
        self.follow(givens, (form(IN, mix(0, 0)), form(A, s(0), IN_ONE, mix(1, 2))))

    def test_six_givens(self):
        leaves = [form(IN), form(IN_ONE), form(A), form(BEE), form(A, s(0)), form(BEE, s(0)), form(IN, s(0))]
        givens = tuple(zip(leaves, leaves[1:]))
        self.assertEqual(len(givens), 6)
        self.follow(givens, (form(IN), form(IN, s(0))))
        self.follow(givens, (chain(5), form(BEE)))
        self.part(givens[:5], (form(A, mix(0, 0)), form(A)))

    def test_no_givens(self):
        self.follow((), (chain(2), chain(2)))
        self.part((), (chain(2), chain(3)))
        self.part((), (form(IN, IN_ONE, mix(0, 1)), form(IN_ONE, IN, mix(0, 1))))

    def test_the_same_from_the_begin_on(self):
        self.follow(((form(A), form(BEE)),), (chain(2), chain(2)))
        self.follow(((form(A), form(A)),), (form(A), form(A)))
        self.part(((form(A), form(A)),), (form(A), form(BEE)))

    def test_inputs(self):
        for inputs in range(1, 4):
            self.part(((chain(2), chain(0)),), (chain(1), chain(0)), inputs)
        for inputs in range(4):
            self.part(((form(A, s(0), s(1)), form(A)),), (form(A), form(A, s(0))), inputs)
        self.part((), (form(("input", 2)), form(IN)), 3)

    def test_other_shapes(self):
        self.part((), (form(IN), form(IN_ONE)), 2, ((), ()))
        self.follow(((form(IN), form(IN_ONE)),), (form(IN_ONE), form(IN)), 2, ((), ()))
        self.part((), (form(IN), form(IN, ("do", "d", (0, 0)))), 1, ((), (("e", 1), ("d", 2))))
        self.part((), (form(A), form(("fixed", "C"))), 0, (("A", "B", "C"), (("d", 2),)))

    def test_beside_another_checker(self):
        told = {"follows": 0, "part": 0}
        for givens, question in made_pairs(22, 500):
            if Pairs(givens, question).follows():
                self.follow(givens, question)
                told["follows"] += 1
            else:
                self.part(givens, question)
                told["part"] += 1
        self.assertGreater(min(told.values()), 100)

    def test_what_follows_holds_in_worlds(self):
        seen = 0
        for givens, question in made_pairs(23, 300):
            follow = follows(SHAPE, 2, givens, question)[0] == "follows"
            for world in WORLDS:
                for inputs in itertools.product(range(world[0]), repeat=2):
                    if parts_given(SHAPE, givens, question, world, inputs):
                        self.assertFalse(follow)
                        seen += 1
        self.assertGreater(seen, 100)

    def test_great_forms(self):
        one, other = [plain(SHAPE, read_program(f"inputs x y\ntell (loop #i 400 z {x} (mix z z))"), 2000) for x in "xy"]
        givens = ((form(IN), form(IN_ONE)),)
        told = follows(SHAPE, 2, givens, (one, other))
        self.assertEqual(told[0], "follows")
        self.assertIs(paper_holds(givens, (one, other), told[1]), True)
        told = follows(SHAPE, 2, (), (one, other))
        self.assertIs(parts_given(SHAPE, (), (one, other), told[1], told[2]), True)

    def test_the_same_again(self):
        first = follows(SHAPE, 2, ((chain(0), chain(1)),), (chain(2), chain(0)))
        second = follows(SHAPE, 2, ((chain(0), chain(2)),), (chain(1), chain(0)))
        self.assertEqual(follows(SHAPE, 2, ((chain(0), chain(1)),), (chain(2), chain(0))), first)
        self.assertEqual(follows(SHAPE, 2, ((chain(0), chain(2)),), (chain(1), chain(0))), second)

    def test_by_name(self):
        told = follows(shape=SHAPE, inputs=1, givens=(), question=(chain(0), chain(0)))
        self.assertEqual(told, ("follows", ()))


class TestPartsGiven(unittest.TestCase):
    def check(self, told, givens, question, world, inputs):
        self.assertIs(parts_given(SHAPE, givens, question, world, inputs), told)

    def test_small(self):
        # In WORLD s goes round three things.
        round_three = (chain(3), chain(0))
        self.check(True, (round_three,), (chain(1), chain(0)), WORLD, (0,))
        self.check(False, (round_three,), (chain(4), chain(1)), WORLD, (0,))
        self.check(False, ((chain(2), chain(0)),), (chain(1), chain(0)), WORLD, (0,))
        self.check(False, (round_three, (chain(1), chain(0))), (chain(1), chain(0)), WORLD, (0,))
        self.check(False, ((chain(1), chain(0)), round_three), (chain(2), chain(0)), WORLD, (0,))
        self.check(False, (round_three,), (chain(1), chain(0)), ONE, (0,))
        self.check(True, ((chain(2), chain(0)),), (chain(1), chain(0)), PAIR, (0,))

    def test_no_givens(self):
        self.check(True, (), (form(A), form(BEE)), WORLD, ())
        self.check(False, (), (form(A), form(BEE)), ONE, ())
        self.check(False, (), (form(A), form(A)), WORLD, ())

    def test_inputs_in_a_list(self):
        inputs = [0, 1]
        self.check(True, ((chain(1), form(IN_ONE)),), (form(IN), form(IN_ONE)), WORLD, inputs)
        self.check(False, ((chain(1), form(IN_ONE)),), (form(IN), form(IN_ONE)), WORLD, [0, 2])
        self.assertEqual(inputs, [0, 1])

    def test_by_name(self):
        told = parts_given(shape=SHAPE, givens=(), question=(form(A), form(BEE)), world=WORLD, inputs=())
        self.assertIs(told, True)


if __name__ == "__main__":
    unittest.main()
