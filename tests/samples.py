"""Terms, programs, shapes and worlds that several tests use, put together by hand beside their texts."""

import random

from shapefree.errors import TooLong
from shapefree.formed import form_of
from shapefree.plain import plain

X = ("name", "x")
Y = ("name", "y")
A = ("fixed", "A")
NOUGHT = ("num", 0)
SIX = ("num", 999999)
I = ("count", "i")
SUM = ("op", "+", I, ("num", 12))
NEST = ("op", "<", ("op", ":", I, ("num", 3)), ("op", "*", ("num", 2), ("count", "jj")))

# Numbers' terms and their texts.
NUMBERS = (
    (NOUGHT, "0"),
    (("num", 7), "7"),
    (SIX, "999999"),
    (("num", 100000), "100000"),
    (I, "#i"),
    (("count", "abcdef"), "#abcdef"),
    (SUM, "[#i + 12]"),
    (("op", "*", NOUGHT, I), "[0 * #i]"),
    (("op", ":", ("num", 5), NOUGHT), "[5 : 0]"),
    (("op", "<", I, I), "[#i < #i]"),
    (NEST, "[[#i : 3] < [2 * #jj]]"),
)

DO_ONE = ("do", "s", (X,))
DO_TWO = ("do", "mix", (DO_ONE, A))
LET = ("let", "y", DO_ONE, ("do", "mix", (Y, X)))
LOOP = ("loop", "i", SUM, "x", A, ("pick", I, (X, DO_ONE)))
PICK = ("pick", NEST, (X,))
CALL = ("call", "f", ())
CALL_ARGS = ("call", "go", (X, SUM, DO_TWO, NOUGHT, I))

# Terms and their texts.
TERMS = (
    (X, "x"),
    (("name", "abcdef"), "abcdef"),
    (A, "A"),
    (("fixed", "Zabcde"), "Zabcde"),
    (DO_ONE, "(s x)"),
    (DO_TWO, "(mix (s x) A)"),
    (("do", "three", (X, Y, A)), "(three x y A)"),
    (LET, "(let y (s x) (mix y x))"),
    (LOOP, "(loop #i [#i + 12] x A (pick #i x (s x)))"),
    (PICK, "(pick [[#i : 3] < [2 * #jj]] x)"),
    (("pick", NOUGHT, (X, A, DO_ONE)), "(pick 0 x A (s x))"),
    (CALL, "(call f)"),
    (CALL_ARGS, "(call go x [#i + 12] (mix (s x) A) 0 #i)"),
    (("do", "s", (CALL,)), "(s (call f))"),
)

# Programs and their texts; most of them would not be let by.
PROGRAMS = (
    (((), (), A), "inputs\ntell A"),
    ((("x",), (), X), "inputs x\ntell x"),
    ((("x", "y", "x"), (), CALL), "inputs x y x\ntell (call f)"),
    (((), (("f", (), A),), CALL), "inputs\ndef f = A\ntell (call f)"),
    (
        (("x", "y"), (("f", (("x", "thing"), ("i", "number"), ("x", "thing")), LOOP), ("f", (), LET)), CALL_ARGS),
        "inputs x y\ndef f x #i x = (loop #i [#i + 12] x A (pick #i x (s x)))\n"
        "def f = (let y (s x) (mix y x))\ntell (call go x [#i + 12] (mix (s x) A) 0 #i)",
    ),
    (((), (("f", (("i", "number"),), X),), DO_TWO), "inputs\ndef f #i = x\ntell (mix (s x) A)"),
)

SHAPE = (("A", "Bee"), (("s", 1), ("mix", 2)))
SHAPE_TEXT = "shape A Bee | s/1 mix/2"
WORLD = (3, (0, 2), ((1, 2, 0), ((0, 1, 2), (1, 1, 0), (2, 0, 2))))
WORLD_TEXT = "world 3\nA 0\nBee 2\ns 1 2 0\nmix 0 1 2 1 1 0 2 0 2"


def nested(depth):
    """A term of do's, so deep, and its text."""
    term = X
    for k in range(depth):
        term = ("do", "s", (term,))
    return term, "(s " * depth + "x" + ")" * depth


def nested_number(depth):
    """A number's term, so deep on both sides in turn, and its text."""
    number, text = I, "#i"
    for k in range(depth):
        if k % 2:
            number, text = ("op", "+", number, NOUGHT), "[" + text + " + 0]"
        else:
            number, text = ("op", ":", ("num", 1), number), "[1 : " + text + "]"
    return number, text


IN = ("input", 0)
IN_ONE = ("input", 1)
BEE = ("fixed", "Bee")


def s(part):
    """A do, of a term or of a node by its number."""
    return ("do", "s", (part,))


def mix(one, other):
    return ("do", "mix", (one, other))


def form(*nodes):
    """The plain form of these nodes."""
    return (nodes, len(nodes) - 1)


# More worlds of SHAPE: one thing alone, a chain with an end, and a world in which mix tells its two apart.
ONE = (1, (0, 0), ((0,), ((0,),)))
CHAIN = (4, (3, 1), ((1, 2, 3, 3), ((3, 2, 1, 0), (2, 2, 1, 1), (0, 1, 2, 3), (1, 3, 0, 2))))
PAIR = (2, (1, 0), ((1, 0), ((0, 0), (1, 1))))
WORLDS = (WORLD, ONE, CHAIN, PAIR)


def number_by(number, counts):
    """The value of a number's term, reckoned beside the package."""
    if number[0] == "num":
        return number[1]
    if number[0] == "count":
        return counts[number[1]]
    one, other = number_by(number[2], counts), number_by(number[3], counts)
    if number[1] == ":":
        return one % other if other else one
    return {"+": (one + other) % 10 ** 6, "*": one * other % 10 ** 6, "<": int(one < other)}[number[1]]


def told_by(program, inputs, fixed, do):
    """What a program tells, gone through beside the package, and in how many turns."""
    turns = []
    defs = {one[0]: one for one in program[1]}

    def go(term, things, counts):
        kind = term[0]
        if kind == "name":
            return things[term[1]]
        if kind == "fixed":
            return fixed(term[1])
        if kind == "pick":
            return go(term[2][number_by(term[1], counts) % len(term[2])], things, counts)
        if kind == "let":
            return go(term[3], {**things, term[1]: go(term[2], things, counts)}, counts)
        if kind == "loop":
            thing = go(term[4], things, counts)
            for k in range(number_by(term[2], counts)):
                turns.append(term)
                thing = go(term[5], {**things, term[3]: thing}, {**counts, term[1]: k})
            return thing
        turns.append(term)
        if kind == "do":
            return do(term[1], tuple(go(part, things, counts) for part in term[2]))
        params, body = defs[term[1]][1:]
        inner = {}, {}
        for (name, sort), arg in zip(params, term[2]):
            if sort == "thing":
                inner[0][name] = go(arg, things, counts)
            else:
                inner[1][name] = number_by(arg, counts)
        return go(body, *inner)

    return go(program[2], dict(zip(program[0], inputs)), {}), len(turns)


def run_by(program, world, inputs, shape=SHAPE):
    """What run should tell in a world of a shape."""
    def do(d, things):
        entry = world[2][[name for name, places in shape[1]].index(d)]
        for thing in things:
            entry = entry[thing]
        return entry
    return told_by(program, inputs, lambda c: world[1][shape[0].index(c)], do)


def written_out(program):
    """The plain term that a program tells, and in how many turns."""
    inputs = [("input", k) for k in range(len(program[0]))]
    return told_by(program, inputs, lambda c: ("fixed", c), lambda d, things: ("do", d, things))


def form_written_out(form):
    """A form's plain term."""
    terms = []
    for node in form[0]:
        terms.append(("do", node[1], tuple(terms[part] for part in node[2])) if node[0] == "do" else node)
    return terms[form[1]]


class Maker:
    """Puts programs of a shape together that are let by, the same ones from the same seed on.

    The shape has a fixed thing and a deed at least.
    """

    def __init__(self, seed, shape=SHAPE):
        self.chance = random.Random(seed)
        self.shape = shape

    def number(self, counts, depth):
        kind = self.chance.choice(("num", "num", "count", "op"))
        if kind == "count" and counts:
            return ("count", self.chance.choice(counts))
        if kind == "op" and depth:
            sign = self.chance.choice("+*:<")
            return ("op", sign, self.number(counts, depth - 1), self.number(counts, depth - 1))
        return ("num", self.chance.randrange(4))

    def term(self, things, counts, defs, depth):
        kind = self.chance.choice(("name", "do", "do", "let", "loop", "pick", "call")) if depth else "name"
        if kind == "call" and defs:
            f, params, body = self.chance.choice(defs)
            args = [self.term(things, counts, defs, depth - 1) if sort == "thing" else self.number(counts, 1)
                    for name, sort in params]
            return ("call", f, tuple(args))
        if kind == "do":
            d, places = self.chance.choice(self.shape[1])
            return ("do", d, tuple(self.term(things, counts, defs, depth - 1) for k in range(places)))
        if kind == "pick":
            many = self.chance.randrange(1, 4)
            terms = tuple(self.term(things, counts, defs, depth - 1) for k in range(many))
            return ("pick", self.number(counts, 2), terms)
        x, i = self.chance.choice("xyz"), self.chance.choice("xij")
        if kind == "let":
            a = self.term(things, counts, defs, depth - 1)
            return ("let", x, a, self.term(things + [x], counts, defs, depth - 1))
        if kind == "loop":
            a = self.term(things, counts, defs, depth - 1)
            b = self.term(things + [x], counts + [i], defs, depth - 1)
            return ("loop", i, self.number(counts, 1), x, a, b)
        if things and self.chance.randrange(4):
            return ("name", self.chance.choice(things))
        return ("fixed", self.chance.choice(self.shape[0]))

    def program(self, inputs, depth):
        defs = []
        for f in ("f", "g", "x")[:self.chance.randrange(4)]:
            params = [(x, "thing") for x in "xy" if self.chance.randrange(2)]
            params += [(i, "number") for i in "xi" if self.chance.randrange(2)]
            self.chance.shuffle(params)
            bound = [x for x, sort in params if sort == "thing"], [i for i, sort in params if sort == "number"]
            defs.append((f, tuple(params), self.term(*bound, defs, depth - 1)))
        names = ["x", "y", "w"][:inputs]
        return (tuple(names), tuple(defs), self.term(names, [], defs, depth))


def made_programs(seed, many, most, depth=4, shape=SHAPE):
    """So many programs with none to three inputs, that take at most so many turns, of texts not all too short."""
    maker = Maker(seed, shape)
    told = []
    while len(told) < many:
        program = maker.program(len(told) % 4, depth)
        try:
            if plain(shape, program, most)[1]:
                told.append(program)
        except TooLong:
            continue
    return told


# Programs by their texts, and how many turns each takes; what they tell is reckoned beside the package.
RUNS = (
    ("inputs\ntell Bee", 0),
    ("inputs x\ntell x", 0),
    ("inputs x y\ntell y", 0),
    ("inputs x\ntell (s x)", 1),
    ("inputs x y\ntell (mix (s y) (mix x A))", 3),
    ("inputs x\ntell (let y (s x) (mix y y))", 2),
    ("inputs x\ntell (let y (s x) x)", 1),
    ("inputs x\ntell (let x (s x) (let x (mix x x) (s x)))", 3),
    ("inputs x\ntell (let y (let x (s x) (s x)) (mix x y))", 3),
    ("inputs x\ntell (loop #i 0 y (s x) (mix y y))", 1),
    ("inputs x\ntell (loop #i 1 y x (s y))", 2),
    ("inputs x\ntell (loop #i 5 y x (s y))", 10),
    ("inputs x\ntell (loop #i 4 y x y)", 4),
    ("inputs x\ntell (loop #i 4 x x (mix x A))", 8),
    ("inputs x y\ntell (loop #i 3 x (s y) (pick #i x (mix x y) (s x)))", 6),
    ("inputs x\ntell (loop #i 3 y x (loop #j #i z y (s z)))", 9),
    ("inputs x\ntell (loop #i 3 y x (loop #i [#i + 1] y (s y) (pick #i y (s y))))", 14),
    ("inputs x\ntell (loop #x 3 x x (pick [#x < 1] x (s x)))", 4),
    ("inputs x\ntell (pick 5 x (s x))", 1),
    ("inputs x\ntell (pick 4 x (s x))", 0),
    ("inputs x\ntell (pick 999999 (s x))", 1),
    ("inputs x\ntell (pick [7 * [3 + 2]] x (s x) (s (s x)))", 2),
    ("inputs\ndef f = Bee\ntell (call f)", 1),
    ("inputs x\ndef f x = (s x)\ntell (call f (call f x))", 4),
    ("inputs x y\ndef f y x = (mix x (s y))\ntell (call f x y)", 3),
    ("inputs x\ndef f #x x = (loop #i #x y x (mix y (s x)))\ntell (call f [1 + 1] x)", 7),
    ("inputs x\ndef f #i x #j = (pick [#i < #j] x (s x))\ntell (mix (call f 1 x 2) (call f 2 x 1))", 4),
    ("inputs x\ndef f x = (s x)\ndef g #i y = (loop #j #i x y (call f x))\ntell (loop #k 3 x x (call g #k x))", 15),
    ("inputs x\ntell (let y (loop #i 2 y x (s y)) (loop #i 2 x y (mix x y)))", 8),
    ("inputs s\ndef s s = (s s)\ntell (call s (s s))", 3),
)


class Pairs:
    """Givens and a question laid together beside the package: nodes are known by what they are written out."""

    def __init__(self, givens, question):
        self.pairs = [tuple(map(form_written_out, pair)) for pair in givens + (question,)]
        self.terms = []
        for one in [one for pair in givens + (question,) for one in pair]:
            for k in range(len(one[0])):
                term = form_written_out((one[0], k))
                if term not in self.terms:
                    self.terms.append(term)
        self.label = {term: k for k, term in enumerate(self.terms)}

    def join(self, one, other):
        old, new = self.label[one], self.label[other]
        self.label = {term: new if label == old else label for term, label in self.label.items()}

    def is_joined(self, one, other):
        return self.label[one] == self.label[other]

    def is_like(self, one, other):
        return one[0] == other[0] == "do" and one[1] == other[1] and all(map(self.is_joined, one[2], other[2]))

    def is_asked_joined(self):
        return self.is_joined(*self.pairs[-1])

    def holds(self, paper):
        for row in paper:
            if row[0] == "given":
                if row[1] not in range(len(self.pairs) - 1):
                    return False
                self.join(*self.pairs[row[1]])
            else:
                if row[1] not in range(len(self.terms)) or row[2] not in range(len(self.terms)):
                    return False
                one, other = self.terms[row[1]], self.terms[row[2]]
                if not self.is_like(one, other):
                    return False
                self.join(one, other)
        return self.is_asked_joined()

    def follows(self):
        """Whether the question's two are joined when all is joined that can be."""
        for pair in self.pairs[:-1]:
            self.join(*pair)
        labels = None
        while labels != self.label:
            labels = self.label
            for one in self.terms:
                for other in self.terms:
                    if self.is_like(one, other) and not self.is_joined(one, other):
                        self.join(one, other)
        return self.is_asked_joined()


def chain(many):
    """The form of many s's, done on the input 0."""
    return form(*[IN] + [s(k) for k in range(many)])


def made_pairs(seed, many):
    """So many (givens, question) of small forms over SHAPE with two inputs, some of which follow."""
    chance = random.Random(seed)
    leaves = (IN, IN_ONE, ("fixed", "A"), BEE)

    def term(depth):
        if not depth or not chance.randrange(4):
            return chance.choice(leaves[:chance.randrange(1, 5)])
        if chance.randrange(2):
            return s(term(depth - 1))
        return mix(term(depth - 1), term(depth - 1))

    told = []
    while len(told) < many:
        pool = [term(chance.randrange(3)) for k in range(6)]
        pool += [s(one) for one in pool[:3]] + [mix(one, pool[0]) for one in pool[3:]]
        forms = [form_of(one) for one in pool]
        givens = tuple((chance.choice(forms), chance.choice(forms)) for k in range(chance.randrange(7)))
        told.append((givens, (chance.choice(forms), chance.choice(forms))))
    return told
