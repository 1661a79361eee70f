import unittest

from samples import nested_number
from shapefree.numbers import value_of


def num(k):
    return ("num", k)


def op(sign, one, other):
    return ("op", sign, num(one), num(other))


class TestValues(unittest.TestCase):
    def check(self, number, told, counts=None):
        value = value_of(number, {} if counts is None else counts)
        self.assertEqual(value, told)
        self.assertIs(int, value.__class__)

    def test_num_and_count(self):
        self.check(num(0), 0)
        self.check(num(999999), 999999)
        self.check(("count", "i"), 4, {"i": 4, "j": 5})
        self.check(("count", "j"), 0, {"i": 4, "j": 0})

    def test_sums(self):
        self.check(op("+", 0, 0), 0)
        self.check(op("+", 3, 4), 7)
        self.check(op("+", 999999, 0), 999999)
        self.check(op("+", 999999, 1), 0)
        self.check(op("+", 999999, 999999), 999998)

    def test_products(self):
        self.check(op("*", 6, 7), 42)
        self.check(op("*", 0, 999999), 0)
        self.check(op("*", 1000, 1000), 0)
        self.check(op("*", 1001, 1000), 1000)
        self.check(op("*", 999999, 999999), 1)

    def test_rests(self):
        self.check(op(":", 7, 3), 1)
        self.check(op(":", 6, 3), 0)
        self.check(op(":", 2, 3), 2)
        self.check(op(":", 0, 3), 0)
        self.check(op(":", 5, 1), 0)

    def test_rest_by_nought(self):
        self.check(op(":", 7, 0), 7)
        self.check(op(":", 0, 0), 0)
        self.check(("op", ":", num(9), op("*", 1000, 1000)), 9)

    def test_less(self):
        self.check(op("<", 1, 2), 1)
        self.check(op("<", 2, 2), 0)
        self.check(op("<", 3, 2), 0)
        self.check(op("<", 0, 1), 1)

    def test_terms_within_terms(self):
        number = ("op", "+", ("op", "*", ("count", "i"), num(10)), ("op", ":", ("count", "j"), num(4)))
        self.check(number, 32, {"i": 3, "j": 6})
        self.check(("op", "<", ("op", "<", num(5), num(1)), number), 1, {"i": 3, "j": 6})
        self.check(("op", "*", ("op", "+", num(999999), num(2)), num(5)), 5)
        self.check(("op", "+", number, number), 64, {"i": 3, "j": 6})

    def test_deep(self):
        self.check(nested_number(15)[0], 1, {"i": 1})
        number = num(1)
        for k in range(15):
            number = ("op", "+", number, num(1))
        self.check(number, 16)

    def test_dict_stays(self):
        counts = {"i": 3, "j": 6}
        number = ("op", "+", ("count", "i"), ("count", "i"))
        self.check(number, 6, counts)
        self.assertEqual(counts, {"i": 3, "j": 6})
        counts["i"] = 4
        self.check(number, 8, counts)
        self.check(number, 6, {"i": 3})

    def test_by_name(self):
        self.assertEqual(value_of(number=("count", "i"), counts={"i": 2}), 2)


if __name__ == "__main__":
    unittest.main()
