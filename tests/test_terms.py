import unittest

from samples import A, CALL, CALL_ARGS, DO_ONE, DO_TWO, I, LET, LOOP, NEST, NOUGHT, NUMBERS, PICK, SUM, TERMS, X, Y
from samples import nested, nested_number
from shapefree.terms import deep, part_at, parts, places, replaced

INPUT = ("input", 2)
OPENED = ("do", "mix", (INPUT, ("let", "x", INPUT, X)))

# Each with its parts, by place, and how deep it is, written out by hand.
CASES = (
    (X, [((), X)], 0),
    (A, [((), A)], 0),
    (INPUT, [((), INPUT)], 0),
    (NOUGHT, [((), NOUGHT)], 0),
    (I, [((), I)], 0),
    (CALL, [((), CALL)], 0),
    (("do", "d", ()), [((), ("do", "d", ()))], 0),
    (SUM, [((), SUM), ((0,), I), ((1,), ("num", 12))], 1),
    (
        NEST,
        [((), NEST), ((0,), NEST[2]), ((0, 0), I), ((0, 1), ("num", 3)),
         ((1,), NEST[3]), ((1, 0), ("num", 2)), ((1, 1), ("count", "jj"))],
        2,
    ),
    (DO_TWO, [((), DO_TWO), ((0,), DO_ONE), ((0, 0), X), ((1,), A)], 2),
    (LET, [((), LET), ((0,), DO_ONE), ((0, 0), X), ((1,), LET[3]), ((1, 0), Y), ((1, 1), X)], 2),
    (
        LOOP,
        [((), LOOP), ((0,), SUM), ((0, 0), I), ((0, 1), ("num", 12)), ((1,), A), ((2,), LOOP[5]),
         ((2, 0), I), ((2, 1), X), ((2, 2), DO_ONE), ((2, 2, 0), X)],
        3,
    ),
    (
        PICK,
        [((), PICK), ((0,), NEST), ((0, 0), NEST[2]), ((0, 0, 0), I), ((0, 0, 1), ("num", 3)),
         ((0, 1), NEST[3]), ((0, 1, 0), ("num", 2)), ((0, 1, 1), ("count", "jj")), ((1,), X)],
        3,
    ),
    (
        CALL_ARGS,
        [((), CALL_ARGS), ((0,), X), ((1,), SUM), ((1, 0), I), ((1, 1), ("num", 12)), ((2,), DO_TWO),
         ((2, 0), DO_ONE), ((2, 0, 0), X), ((2, 1), A), ((3,), NOUGHT), ((4,), I)],
        3,
    ),
    (
        OPENED,
        [((), OPENED), ((0,), INPUT), ((1,), OPENED[2][1]), ((1, 0), INPUT), ((1, 1), X)],
        2,
    ),
)
ALL = [case[0] for case in CASES] + [pair[0] for pair in TERMS] + [pair[0] for pair in NUMBERS]


class TestParts(unittest.TestCase):
    def test_places(self):
        for term, pairs, depth in CASES:
            self.assertEqual(places(term), [place for place, part in pairs])

    def test_parts(self):
        for term, pairs, depth in CASES:
            self.assertEqual(parts(term), [part for place, part in pairs])

    def test_deep(self):
        for term, pairs, depth in CASES:
            self.assertEqual(deep(term), depth)
        self.assertEqual(deep(nested(15)[0]), 15)
        self.assertEqual(deep(nested_number(15)[0]), 15)

    def test_more_than_tens_deep(self):
        term = nested(3000)[0]
        self.assertEqual(deep(term), 3000)
        self.assertEqual(len(parts(term)), 3001)
        self.assertEqual(places(term)[-1], (0,) * 3000)
        self.assertEqual(part_at(term, (0,) * 3000), X)
        self.assertEqual(part_at(replaced(term, (0,) * 3000, A), (0,) * 3000), A)

    def test_told_lists_are_the_asker_s_own(self):
        for ask in (parts, places):
            for term in ALL:
                told = ask(term)
                kept = list(told)
                self.assertIs(list, told.__class__)
                told.append(X)
                told[0] = None
                told.reverse()
                self.assertEqual(ask(term), kept)

    def test_by_name(self):
        self.assertEqual(parts(term=X), [X])
        self.assertEqual(places(term=X), [()])
        self.assertEqual(deep(term=X), 0)
        self.assertEqual(part_at(term=DO_ONE, place=(0,)), X)
        self.assertEqual(replaced(term=DO_ONE, place=(0,), part=A), ("do", "s", (A,)))


class TestPartAt(unittest.TestCase):
    def test_there(self):
        for term, pairs, depth in CASES:
            for place, part in pairs:
                self.assertEqual(part_at(term, place), part)

    def test_not_there(self):
        for term, pairs, depth in CASES:
            there = [place for place, part in pairs]
            for place in there:
                width = len([other for other in there if other[:-1] == place and len(other) == len(place) + 1])
                for k in (width, width + 1, 1000000, -1, -width, -width - 1):
                    if k == width or not 0 <= k < width:
                        self.assertIsNone(part_at(term, place + (k,)), (term, place, k))
                        self.assertIsNone(part_at(term, place + (k, 0)))

    def test_within_a_leaf(self):
        for leaf in (X, A, INPUT, NOUGHT, I, CALL):
            for place in ((0,), (1,), (-1,), (0, 0), (2, 1)):
                self.assertIsNone(part_at(leaf, place))


class TestReplaced(unittest.TestCase):
    def test_by_itself(self):
        for term in ALL:
            for place in places(term):
                self.assertEqual(replaced(term, place, part_at(term, place)), term)

    def test_by_another(self):
        new = ("pick", NOUGHT, (A, A))
        for term in ALL:
            there = dict(zip(places(term), parts(term)))
            for place in there:
                told = replaced(term, place, new)
                self.assertEqual(part_at(told, place), new)
                for other, part in there.items():
                    if other[:len(place)] != place and place[:len(other)] != other:
                        self.assertEqual(part_at(told, other), part)

    def test_written_out(self):
        self.assertEqual(replaced(X, (), A), A)
        self.assertEqual(replaced(SUM, (0,), NOUGHT), ("op", "+", NOUGHT, ("num", 12)))
        self.assertEqual(replaced(SUM, (1,), NOUGHT), ("op", "+", I, NOUGHT))
        self.assertEqual(replaced(LET, (0,), A), ("let", "y", A, LET[3]))
        self.assertEqual(replaced(LET, (1,), A), ("let", "y", DO_ONE, A))
        self.assertEqual(replaced(LOOP, (0,), NOUGHT), ("loop", "i", NOUGHT, "x", A, LOOP[5]))
        self.assertEqual(replaced(LOOP, (1,), Y), ("loop", "i", SUM, "x", Y, LOOP[5]))
        self.assertEqual(replaced(LOOP, (2,), Y), ("loop", "i", SUM, "x", A, Y))
        self.assertEqual(replaced(LOOP, (2, 2, 0), Y)[5], ("pick", I, (X, ("do", "s", (Y,)))))
        self.assertEqual(replaced(PICK, (0,), NOUGHT), ("pick", NOUGHT, (X,)))
        self.assertEqual(replaced(PICK, (1,), A), ("pick", NEST, (A,)))
        self.assertEqual(replaced(CALL_ARGS, (4,), A), ("call", "go", (X, SUM, DO_TWO, NOUGHT, A)))
        self.assertEqual(replaced(DO_TWO, (1,), INPUT), ("do", "mix", (DO_ONE, INPUT)))

    def test_what_is_handed_in_stays(self):
        before = repr(ALL)
        for term in ALL:
            for place in places(term):
                replaced(term, place, A)
        self.assertEqual(repr(ALL), before)


if __name__ == "__main__":
    unittest.main()
