import unittest

from samples import SHAPE, WORLD
from shapefree.errors import NoWorld
from shapefree.worlds import done, fixed_in, look_world

THINGS = WORLD[1]
ONE, TWO = WORLD[2]
OTHERS = (None, True, False, "", "abc", [], [0], {}, {0: 1}, (), -1, 0, 3, "0", (0,), ((),), [0, 2], [1, 2, 0])


class TestLookWorld(unittest.TestCase):
    def refuse(self, world, word, shape=SHAPE):
        with self.assertRaises(NoWorld, msg=repr(world)) as caught:
            look_world(shape, world)
        self.assertEqual(caught.exception.word, word, repr(world))

    def test_let_by(self):
        self.assertIs(look_world(SHAPE, WORLD), True)
        self.assertIs(look_world(((), ()), (1, (), ())), True)
        self.assertIs(look_world(((), ()), (10 ** 30, (), ())), True)
        self.assertIs(look_world((("A", "B"), ()), (1, (0, 0), ())), True)
        self.assertIs(look_world(((), (("d", 2), ("e", 1))), (1, (), (((0,),), (0,)))), True)
        n = 40
        world = (n, (39, 0), (tuple(range(n)), tuple(tuple(range(n)) for k in range(n))))
        self.assertIs(look_world(SHAPE, world), True)

    def test_form(self):
        for thing in OTHERS:
            self.refuse(thing, "form")
        self.refuse(list(WORLD), "form")
        self.refuse(WORLD[:2], "form")
        self.refuse(WORLD + (0,), "form")
        self.refuse(WORLD[:1], "form")
        for n in OTHERS:
            if n != 3:
                self.refuse((n,) + WORLD[1:], "form")
        self.refuse((0, (), ()), "form", ((), ()))
        self.refuse((True, (), ()), "form", ((), ()))
        self.refuse((-3, (), ()), "form", ((), ()))

    def test_fixed(self):
        for thing in OTHERS:
            self.refuse((3, thing, WORLD[2]), "fixed")
            if thing != 0 or thing is False:
                self.refuse((3, (thing, 2), WORLD[2]), "fixed")
                self.refuse((3, (0, thing), WORLD[2]), "fixed")
        for things in ((0,), (0, 2, 1), (0, 3), (-1, 0), [0, 2]):
            self.refuse((3, things, WORLD[2]), "fixed")
        self.refuse((1, (0,), ()), "fixed", ((), ()))
        self.refuse((2, [], ()), "fixed", ((), ()))

    def test_deed(self):
        for thing in OTHERS:
            self.refuse((3, THINGS, thing), "deed")
            self.refuse((3, THINGS, (thing, TWO)), "deed")
            self.refuse((3, THINGS, (ONE, thing)), "deed")
            self.refuse((3, THINGS, (ONE, (thing,) + TWO[1:])), "deed")
            self.refuse((3, THINGS, (ONE, TWO[:2] + (thing,))), "deed")
            if thing != 0 or thing is False:
                self.refuse((3, THINGS, ((1, 2, thing), TWO)), "deed")
                self.refuse((3, THINGS, ((thing, 2, 0), TWO)), "deed")
                self.refuse((3, THINGS, (ONE, (TWO[0], (1, thing, 0), TWO[2]))), "deed")
        self.refuse((3, THINGS, list(WORLD[2])), "deed")
        self.refuse((3, THINGS, (ONE,)), "deed")
        self.refuse((3, THINGS, (ONE, TWO, ONE)), "deed")
        self.refuse((3, THINGS, (TWO, ONE)), "deed")
        self.refuse((3, THINGS, (ONE, ONE)), "deed")
        self.refuse((3, THINGS, (TWO, TWO)), "deed")
        self.refuse((3, THINGS, (ONE[:2], TWO)), "deed")
        self.refuse((3, THINGS, (ONE + (0,), TWO)), "deed")
        self.refuse((3, THINGS, (ONE, TWO[:2])), "deed")
        self.refuse((3, THINGS, (ONE, TWO + TWO[:1])), "deed")
        self.refuse((3, THINGS, (ONE, TWO[:2] + ((0, 0),))), "deed")
        self.refuse((3, THINGS, (ONE, TWO[:2] + ((0, 0, 3),))), "deed")
        self.refuse((3, THINGS, (ONE, TWO[:2] + ([0, 0, 0],))), "deed")
        self.refuse((3, THINGS, (list(ONE), TWO)), "deed")
        self.refuse((3, THINGS, (ONE, list(TWO))), "deed")
        self.refuse((2, (), ()), "deed", ((), (("d", 1),)))
        self.refuse((2, (), ((0, 0),)), "deed", ((), ()))

    def test_first_that_is_due(self):
        self.refuse((0, (9, 9), None), "form")
        self.refuse((3, (9, 9), None), "fixed")
        self.refuse((2,) + WORLD[1:], "fixed")
        self.refuse((2, (0, 1), WORLD[2]), "deed")
        self.refuse((None, None, None), "form")
        self.refuse((1, None, None), "fixed")
        self.refuse((1, (0, 0), None), "deed")

    def test_looked_at_by_the_shape(self):
        self.refuse(WORLD, "fixed", ((), SHAPE[1]))
        self.refuse(WORLD, "fixed", (("A", "B", "C"), SHAPE[1]))
        self.refuse(WORLD, "deed", (SHAPE[0], (("mix", 2), ("s", 1))))
        self.assertIs(look_world((("B", "C"), (("d", 1), ("e", 2))), WORLD), True)

    def test_what_is_handed_in_stays(self):
        world = (3, [0, 2], [[1, 2, 0]])
        self.refuse(world, "fixed")
        self.assertEqual(world, (3, [0, 2], [[1, 2, 0]]))


class TestAsked(unittest.TestCase):
    def test_one_place(self):
        for thing in range(3):
            self.assertEqual(done(SHAPE, WORLD, "s", (thing,)), ONE[thing])
            self.assertEqual(done(SHAPE, WORLD, "s", [thing]), ONE[thing])

    def test_two_places(self):
        table = ((0, 1, 2), (2, 2, 2), (1, 0, 0))
        world = (3, THINGS, (ONE, table))
        for one in range(3):
            for other in range(3):
                self.assertEqual(done(SHAPE, world, "mix", (one, other)), table[one][other])
                self.assertEqual(done(SHAPE, world, "mix", [one, other]), table[one][other])
        self.assertEqual(done(SHAPE, world, "mix", (0, 2)), 2)
        self.assertEqual(done(SHAPE, world, "mix", (2, 0)), 1)

    def test_things_stay(self):
        things = [0, 2]
        done(SHAPE, WORLD, "mix", things)
        self.assertEqual(things, [0, 2])

    def test_fixed(self):
        self.assertEqual(fixed_in(SHAPE, WORLD, "A"), 0)
        self.assertEqual(fixed_in(SHAPE, WORLD, "Bee"), 2)

    def test_by_name(self):
        self.assertIs(look_world(shape=SHAPE, world=WORLD), True)
        self.assertEqual(done(shape=SHAPE, world=WORLD, d="s", things=(0,)), 1)
        self.assertEqual(fixed_in(shape=SHAPE, world=WORLD, c="Bee"), 2)


if __name__ == "__main__":
    unittest.main()
