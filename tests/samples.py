"""Terms, programs, shapes and worlds that several tests use, put together by hand beside their texts."""

X = ("name", "x")
Y = ("name", "y")
A = ("fixed", "A")
NOUGHT = ("num", 0)
SIX = ("num", 999999)
I = ("count", "i")
SUM = ("op", "+", I, ("num", 12))
NEST = ("op", "<", ("op", ":", I, ("num", 3)), ("op", "*", ("num", 2), ("count", "jj")))

# Numbers' terms and their texts.
NUMBERS = (
    (NOUGHT, "0"),
    (("num", 7), "7"),
    (SIX, "999999"),
    (("num", 100000), "100000"),
    (I, "#i"),
    (("count", "abcdef"), "#abcdef"),
    (SUM, "[#i + 12]"),
    (("op", "*", NOUGHT, I), "[0 * #i]"),
    (("op", ":", ("num", 5), NOUGHT), "[5 : 0]"),
    (("op", "<", I, I), "[#i < #i]"),
    (NEST, "[[#i : 3] < [2 * #jj]]"),
)

DO_ONE = ("do", "s", (X,))
DO_TWO = ("do", "mix", (DO_ONE, A))
LET = ("let", "y", DO_ONE, ("do", "mix", (Y, X)))
LOOP = ("loop", "i", SUM, "x", A, ("pick", I, (X, DO_ONE)))
PICK = ("pick", NEST, (X,))
CALL = ("call", "f", ())
CALL_ARGS = ("call", "go", (X, SUM, DO_TWO, NOUGHT, I))

# Terms and their texts.
TERMS = (
    (X, "x"),
    (("name", "abcdef"), "abcdef"),
    (A, "A"),
    (("fixed", "Zabcde"), "Zabcde"),
    (DO_ONE, "(s x)"),
    (DO_TWO, "(mix (s x) A)"),
    (("do", "three", (X, Y, A)), "(three x y A)"),
    (LET, "(let y (s x) (mix y x))"),
    (LOOP, "(loop #i [#i + 12] x A (pick #i x (s x)))"),
    (PICK, "(pick [[#i : 3] < [2 * #jj]] x)"),
    (("pick", NOUGHT, (X, A, DO_ONE)), "(pick 0 x A (s x))"),
    (CALL, "(call f)"),
    (CALL_ARGS, "(call go x [#i + 12] (mix (s x) A) 0 #i)"),
    (("do", "s", (CALL,)), "(s (call f))"),
)

# Programs and their texts; most of them would not be let by.
PROGRAMS = (
    (((), (), A), "inputs\ntell A"),
    ((("x",), (), X), "inputs x\ntell x"),
    ((("x", "y", "x"), (), CALL), "inputs x y x\ntell (call f)"),
    (((), (("f", (), A),), CALL), "inputs\ndef f = A\ntell (call f)"),
    (
        (("x", "y"), (("f", (("x", "thing"), ("i", "number"), ("x", "thing")), LOOP), ("f", (), LET)), CALL_ARGS),
        "inputs x y\ndef f x #i x = (loop #i [#i + 12] x A (pick #i x (s x)))\n"
        "def f = (let y (s x) (mix y x))\ntell (call go x [#i + 12] (mix (s x) A) 0 #i)",
    ),
    (((), (("f", (("i", "number"),), X),), DO_TWO), "inputs\ndef f #i = x\ntell (mix (s x) A)"),
)

SHAPE = (("A", "Bee"), (("s", 1), ("mix", 2)))
SHAPE_TEXT = "shape A Bee | s/1 mix/2"
WORLD = (3, (0, 2), ((1, 2, 0), ((0, 1, 2), (1, 1, 0), (2, 0, 2))))
WORLD_TEXT = "world 3\nA 0\nBee 2\ns 1 2 0\nmix 0 1 2 1 1 0 2 0 2"


def nested(depth):
    """A term of do's, so deep, and its text."""
    term = X
    for k in range(depth):
        term = ("do", "s", (term,))
    return term, "(s " * depth + "x" + ")" * depth


def nested_number(depth):
    """A number's term, so deep on both sides in turn, and its text."""
    number, text = I, "#i"
    for k in range(depth):
        if k % 2:
            number, text = ("op", "+", number, NOUGHT), "[" + text + " + 0]"
        else:
            number, text = ("op", ":", ("num", 1), number), "[1 : " + text + "]"
    return number, text
