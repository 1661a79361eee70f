"""The desk, which keeps programs and worlds by names and is asked by rows."""

from shapefree.alike import alike
from shapefree.closing import told
from shapefree.deskrows import read_row
from shapefree.errors import NoName, NoRow
from shapefree.given import follows
from shapefree.looker import look, look_unlike
from shapefree.moves import moves
from shapefree.opened import opened
from shapefree.plain import depth, plain
from shapefree.reader import read_program, read_shape
from shapefree.runs import run
from shapefree.steps import walked
from shapefree.terms import parts
from shapefree.worldtexts import read_world, world_text

MOST_TURNS = 500
MOST_PARTS = 200
MOST_ROWS = 60


class Desk:
    """Keeps programs and worlds of one shape by names, as pairs of their sort and what they are."""

    def __init__(self, text):
        shape = read_shape(text)
        look_unlike([(c, "fixed") for c in shape[0]] + [(deed[0], "deed") for deed in shape[1]])
        self.shape = shape
        self.kept = {}

    def say(self, row):
        """What the desk says to a row, or the first refusal that is due."""
        asked = read_row(row)
        if asked[0] == "keep":
            return self.keep(asked[1], asked[2])
        programs = [self.kept_as("program", name) for name in asked[1]]
        worlds = [self.kept_as("world", name) for name in asked[2]]
        look_counts(asked[0], programs, worlds, asked[3])
        return answer(self.shape, asked[0], programs, worlds, asked[3])

    def keep(self, name, text):
        rows = text.replace(" ; ", "\n")
        if rows.startswith("world"):
            self.kept[name] = ("world", read_world(self.shape, rows))
            return "kept"
        program = read_program(rows)
        look(self.shape, program)
        self.kept[name] = ("program", program)
        return "kept"

    def kept_as(self, sort, name):
        pair = self.kept.get(name, ("", None))
        if pair[0] != sort:
            raise NoName(name)
        return pair[1]


def look_counts(word, programs, worlds, numbers):
    """NoRow where programs have unlike counts of inputs, or numbers aren't things of the worlds they stand for."""
    if len(set([len(program[0]) for program in programs])) > 1:
        raise NoRow()
    places = worlds_of_numbers(word, programs, worlds)
    if len(numbers) != len(places) or any([k >= world[0] for k, world in zip(numbers, places)]):
        raise NoRow()


def worlds_of_numbers(word, programs, worlds):
    """For each number that has to be told the world of which it is a thing."""
    if word == "run":
        return worlds * len(programs[0][0])
    return worlds if word == "tells" else []


def answer(shape, word, programs, worlds, numbers):
    """What is said to a row about what is kept."""
    if word == "run":
        return run_answer(shape, programs[0], worlds[0], numbers)
    if word == "plain":
        return " | ".join([node_text(node) for node in plain(shape, programs[0], MOST_TURNS)[0]])
    if word == "alike":
        return alike_answer(shape, programs)
    if word == "follows":
        return follows_answer(shape, programs)
    if word == "tells":
        return tells_answer(shape, worlds, numbers)
    if word == "moves":
        return moves_answer(shape, worlds)
    return why_answer(shape, programs[0])


def run_answer(shape, program, world, inputs):
    pair = run(shape, program, world, inputs, MOST_TURNS)
    return joined(["tells", pair[0], "turns", pair[1]])


def joined(words):
    return " ".join([str(word) for word in words])


def node_text(node):
    if node[0] == "do":
        return joined([node[1]] + list(node[2]))
    return joined(node)


def alike_answer(shape, programs):
    found = alike(shape, programs[0], programs[1], MOST_TURNS)
    return "alike" if found[0] == "alike" else part_text(shape, found[1], found[2])


def part_text(shape, world, inputs):
    text = world_text(shape, world).replace("\n", " ; ")
    return joined(["part", text, "at"] + list(inputs))


def follows_answer(shape, programs):
    """The first two programs are the question, each two behind them a given."""
    forms = [plain(shape, program, MOST_TURNS) for program in programs]
    givens = [(forms[k], forms[k + 1]) for k in range(2, len(forms), 2)]
    found = follows(shape, len(programs[0][0]), tuple(givens), (forms[0], forms[1]))
    if found[0] == "follows":
        return joined(["follows", len(found[1])])
    return part_text(shape, found[1], found[2])


def tells_answer(shape, worlds, table):
    points = tuple([(world, ()) for world in worlds])
    found = told(shape, points, table, MOST_ROWS)
    return joined(["program", depth(found[1])]) if found[0] == "program" else "none"


def moves_answer(shape, worlds):
    found = moves(shape, worlds[0], worlds[1])
    texts = [",".join([str(thing) for thing in move]) for move in found]
    return " ".join(texts) if texts else "-"


def why_answer(shape, program):
    """Steps aren't counted as turns, so the turns are looked at ahead of them."""
    plain(shape, program, MOST_TURNS)
    pair = walked(program[1], opened(program), MOST_PARTS)
    return joined([pair[0], len(parts(pair[1]))])
