import unittest

from samples import SHAPE, WORLD, WORLD_TEXT
from shapefree.errors import BadText
from shapefree.worlds import look_world
from shapefree.worldtexts import read_world, world_text

BARE = ((), ())

# Shapes, worlds of them, and their texts.
WORLDS = (
    (SHAPE, WORLD, WORLD_TEXT),
    (BARE, (1, (), ()), "world 1"),
    (BARE, (40, (), ()), "world 40"),
    (BARE, (999999, (), ()), "world 999999"),
    ((("A",), ()), (12, (11,), ()), "world 12\nA 11"),
    (((), (("d", 1),)), (1, (), ((0,),)), "world 1\nd 0"),
    (((), (("d", 2),)), (1, (), (((0,),),)), "world 1\nd 0"),
    (((), (("d", 2), ("e", 1))), (2, (), (((0, 1), (1, 0)), (1, 1))), "world 2\nd 0 1 1 0\ne 1 1"),
)


class TestWorldTexts(unittest.TestCase):
    def refuse(self, shape, text, at):
        with self.assertRaises(BadText, msg=repr(text)) as caught:
            read_world(shape, text)
        self.assertEqual(caught.exception.at, at, repr(text))

    def test_written(self):
        for shape, world, text in WORLDS:
            self.assertEqual(world_text(shape, world), text)

    def test_read(self):
        for shape, world, text in WORLDS:
            self.assertEqual(read_world(shape, text), world)
            self.assertTrue(look_world(shape, read_world(shape, text)))

    def test_great_worlds(self):
        n = 40
        two = tuple(tuple((j * k + 1) % n for k in range(n)) for j in range(n))
        world = (n, (0, 39), (tuple(range(n)), two))
        self.assertEqual(read_world(SHAPE, world_text(SHAPE, world)), world)

    def test_first_rows(self):
        for row in ["", "world", "world ", "world 0", "world 00", "world 03", "world 1000000", "world x", "world -1",
                    "World 3", "world  3", "world 3 ", " world 3", "world 3 3", "3", "world3", "A 0", "shape |",
                    "inputs", "world +3", "world \u0663", "world 3\t"]:
            self.refuse(SHAPE, WORLD_TEXT.replace("world 3", row, 1), 0)
            self.refuse(SHAPE, row, 0)
            self.refuse(BARE, row, 0)

    def check_rows(self, at, texts):
        rows = WORLD_TEXT.split("\n")
        for text in texts:
            self.refuse(SHAPE, "\n".join(rows[:at] + [text] + rows[at + 1:]), at)
            self.refuse(SHAPE, "\n".join(rows[:at] + [text]), at)

    def test_fixed_rows(self):
        self.check_rows(1, ["", "A", "A ", "A 3", "A 00", "A 01", "A -1", "A x", "B 0", "a 0", "A 0 0", "A  0", "A 0 ",
                            " A 0", "Bee 2", "A 0000001", "A 1000000", "s 1 2 0", "0", "A A", "A0", "A #i"])
        self.check_rows(2, ["A 0", "Bee 3", "Bee", "Bee 2 2", "s 1 2 0"])

    def test_rows_of_deeds_of_one_place(self):
        self.check_rows(3, ["", "s", "s 1 2", "s 1 2 0 0", "s 1 2 3", "s 3 2 0", "s 1 2 00", "s 1  2 0", "s 1 2 0 ",
                            " s 1 2 0", "t 1 2 0", "mix 1 2 0", "1 2 0", "s 1 2 x", "s 1 2 -1", "s1 2 0",
                            "mix 0 1 2 1 1 0 2 0 2", "Bee 2", "s/1 1 2 0", "s 1,2,0"])

    def test_rows_of_deeds_of_two_places(self):
        self.check_rows(4, ["", "mix", "mix 0 1 2", "mix 0 1 2 1 1 0 2 0", "mix 0 1 2 1 1 0 2 0 2 0",
                            "mix 0 1 2 1 1 0 2 0 3", "mix 3 1 2 1 1 0 2 0 2", "mix 0 1 2 1 1 0 2 0 02",
                            "mix 0 1 2  1 1 0 2 0 2", "mix 0 1 2 1 1 0 2 0 2 ", "s 1 2 0", "mi 0 1 2 1 1 0 2 0 2"])

    def test_rows_lacking(self):
        rows = WORLD_TEXT.split("\n")
        for k in range(1, len(rows)):
            self.refuse(SHAPE, "\n".join(rows[:k]), k)
            self.refuse(SHAPE, "\n".join(rows[:k]) + "\n", k)
        for k in range(1, len(rows) - 1):
            self.refuse(SHAPE, "\n".join(rows[:k] + rows[k + 1:]), k)

    def test_rows_twice(self):
        rows = WORLD_TEXT.split("\n")
        for k in range(len(rows)):
            self.refuse(SHAPE, "\n".join(rows[:k + 1] + rows[k:]), k + 1)

    def test_rows_more(self):
        for row in ("", "A 0", "C 0", "world 3", "mix 0 1 2 1 1 0 2 0 2", "\n"):
            self.refuse(SHAPE, WORLD_TEXT + "\n" + row, 5)
        self.refuse(BARE, "world 1\n", 1)
        self.refuse(BARE, "world 1\nA 0", 1)

    def test_rows_exchanged(self):
        rows = WORLD_TEXT.split("\n")
        for k in range(len(rows) - 1):
            self.refuse(SHAPE, "\n".join(rows[:k] + [rows[k + 1], rows[k]] + rows[k + 2:]), k)

    def test_the_first_of_several(self):
        self.refuse(SHAPE, "world 3\nA 3\nBee 3", 1)
        self.refuse(SHAPE, "world 0\nA 3\nBee 3", 0)
        self.refuse(SHAPE, WORLD_TEXT.replace("s 1", "s 9") + "\n", 3)

    def test_read_by_its_shape(self):
        self.refuse(BARE, WORLD_TEXT, 1)
        self.refuse((("A",), SHAPE[1]), WORLD_TEXT, 2)
        self.refuse((("Bee", "A"), SHAPE[1]), WORLD_TEXT, 1)
        self.refuse((SHAPE[0], (("s", 2), ("mix", 2))), WORLD_TEXT, 3)
        self.refuse((SHAPE[0], (("s", 1), ("mix", 1))), WORLD_TEXT, 4)

    def test_by_name(self):
        self.assertEqual(world_text(shape=SHAPE, world=WORLD), WORLD_TEXT)
        self.assertEqual(read_world(shape=SHAPE, text=WORLD_TEXT), WORLD)


if __name__ == "__main__":
    unittest.main()
