import unittest

from shapefree.words import is_fixed, is_name, is_shape

KEPT = "inputs def tell let loop pick call world shape".split()


class TestNames(unittest.TestCase):
    def check_names(self, told, texts):
        for text in texts:
            self.assertIs(is_name(text), told, repr(text))

    def check_fixed(self, told, texts):
        for text in texts:
            self.assertIs(is_fixed(text), told, repr(text))

    def test_names(self):
        self.check_names(True, ["a", "z", "x", "ab", "abcde", "abcdef", "zzzzzz", "input", "fixed", "thing"])

    def test_lengths(self):
        self.check_names(False, ["", "abcdefg", "a" * 60])
        self.check_fixed(False, ["", "Abcdefg", "A" + "a" * 60])

    def test_kept_words(self):
        self.check_names(False, KEPT)
        self.check_names(True, [word[:-1] for word in KEPT] + [word[1:] for word in KEPT])
        self.check_names(True, [word + "s" for word in KEPT if len(word) < 6])
        self.check_names(True, ["x" + word for word in KEPT if len(word) < 6])
        self.check_names(False, [word.upper() for word in KEPT] + [word.title() for word in KEPT])

    def test_fixed(self):
        self.check_fixed(True, ["A", "Z", "Ab", "Abcdef", "Zzzzzz"] + [word.title() for word in KEPT])

    def test_capital_letters(self):
        self.check_names(False, ["A", "Ab", "aB", "ABCDEF", "abcdeF"])
        self.check_fixed(False, ["a", "ab", "AB", "aB", "AbcdeF", "ABCDEF"] + KEPT + [word.upper() for word in KEPT])

    def test_other_signs(self):
        others = [" ", "-", "_", "#", "/", "|", "(", ")", "[", "]", "0", "9", "`", "{", "@", "~", "\t", "\n", "\r",
                  "\x00", "\u00e9", "\u00aa", "\u0430", "\uff41", "\U0001d41a"]
        for sign in others:
            self.check_names(False, [sign, "a" + sign, sign + "a", "a" + sign + "b"])
            self.check_fixed(False, [sign, "A" + sign, sign + "A", "A" + sign + "b", sign + "a"])
        self.check_fixed(False, ["\u00c9", "\u0410", "\uff21"])

    def test_by_name(self):
        self.assertTrue(is_name(text="x"))
        self.assertTrue(is_fixed(text="X"))
        self.assertTrue(is_shape(thing=((), ())))


class TestShapes(unittest.TestCase):
    def check(self, told, things):
        for thing in things:
            self.assertIs(is_shape(thing), told, repr(thing))

    def test_shapes(self):
        self.check(True, [
            ((), ()),
            (("A",), ()),
            ((), (("d", 1),)),
            ((), (("d", 2),)),
            (("A", "B", "Abcdef"), (("d", 1), ("e", 2), ("abcdef", 1))),
        ])

    def test_more_than_four(self):
        self.check(True, [
            (tuple("ABCDE"), tuple((name, 1) for name in "abcde")),
            (tuple("ABCDEFGHIJKLMNOPQRSTUVWXYZ"), tuple((name, 2) for name in "abcdefghijklmnopqrstuvwxyz")),
        ])

    def test_names_twice(self):
        self.check(False, [
            (("A", "A"), ()),
            (("A", "B", "C", "D", "E", "A"), ()),
            ((), (("d", 1), ("d", 1))),
            ((), (("d", 1), ("e", 1), ("d", 2))),
        ])

    def test_places(self):
        for places in (0, 3, -1, 10 ** 20, True, False, None, "1", (1,), ()):
            self.check(False, [((), (("d", places),))])

    def test_wrong_names(self):
        for text in ("", "a", "AB", "Abcdefg", "A\n", None, 1, True, (), ("A",), ["A"]):
            self.check(False, [((text,), ()), (("A", text), ())])
        for text in ("", "A", "let", "abcdefg", "d\n", None, 1, True, (), ("d",), ["d"]):
            self.check(False, [((), ((text, 1),)), ((), (("d", 1), (text, 1)))])

    def test_lists(self):
        self.check(False, [
            [(), ()],
            ([], ()),
            ((), []),
            (["A"], ()),
            ((), [("d", 1)]),
            ((), (["d", 1],)),
        ])

    def test_counts_of_parts(self):
        self.check(False, [
            (),
            ((),),
            ((), (), ()),
            ((), ((),)),
            ((), (("d",),)),
            ((), (("d", 1, 1),)),
            ((), ("d", 1)),
        ])

    def test_other_things(self):
        self.check(False, [None, True, False, 0, 2, "", "ab", "shape |", (None, None), ("", ""), ("A", ()), ((), "d"),
                           ("AB", ()), ((), ("d1",)), (0, 0), ((None,), ()), ((), (None,)), ((), (1,)), {}, {1: 2}])


if __name__ == "__main__":
    unittest.main()
