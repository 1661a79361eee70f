"""What the program promises over all of it, and its interface as it stands."""

import copy
import importlib
import inspect
import itertools
import random
import unittest

from drawn import Drawer, all_rows, belongings_by
from samples import BEE, IN, ONE, PAIR, SHAPE, SHAPE_TEXT, WORLD, WORLD_TEXT, chain, form, made_programs, run_by, s
from shapefree.alike import alike, laid, parts_at
from shapefree.belongings import breach
from shapefree.bundles import bundle_world, bundles
from shapefree.closing import closing, told
from shapefree.errors import TooMany
from shapefree.fewest import fewest, fewest_of
from shapefree.floors import floors_hold, floors_of
from shapefree.formed import form_of, program_of
from shapefree.given import follows, parts_given
from shapefree.joins import paper_holds
from shapefree.least import least_part
from shapefree.looker import look
from shapefree.moves import moves
from shapefree.opened import opened
from shapefree.plain import deeds, depth, plain, value
from shapefree.points import row_of
from shapefree.products import product
from shapefree.reader import read_program
from shapefree.rooms import room_world, rooms
from shapefree.runs import run
from shapefree.steps import step_places, stepped, walked
from shapefree.wider import gained, told_deed, wider_shape, wider_world
from shapefree.worlds import look_world
from shapefree.writer import program_text

SHAPES = (SHAPE, (("A",), (("s", 1),)), (("A", "C"), (("input", 1), ("d", 2))), (("Cc",), (("d", 2), ("e", 2))),
          (("A", "B", "C", "D"), (("s", 1), ("t", 1), ("d", 2), ("e", 2))))


def drawn(seed, many, turns=60, depth=4):
    """For each shape a drawer and programs that were drawn with it."""
    for k, shape in enumerate(SHAPES):
        yield shape, Drawer(seed + k), made_programs(seed + k, many, turns, depth, shape)


def inputs_of(drawer, program, world):
    return tuple(drawer.thing(world[0]) for x in program[0])


class TestPromises(unittest.TestCase):
    def test_runs_and_plain_forms(self):
        for shape, drawer, programs in drawn(100, 30):
            for program in programs:
                one = plain(shape, program, 60)
                turns = set()
                for k in range(4):
                    world = drawer.world(shape)
                    inputs = inputs_of(drawer, program, world)
                    thing, many = run(shape, program, world, inputs, 60)
                    turns.add(many)
                    self.assertEqual(thing, value(shape, one, world, inputs))
                    self.assertEqual((thing, many), run_by(program, world, inputs, shape))
                self.assertEqual(len(turns), 1)

    def test_steps_in_whatever_order(self):
        chance = random.Random(105)
        whole = 0
        for shape, drawer, programs in drawn(105, 20, 30, 3):
            for program in programs:
                one = plain(shape, program, 30)
                try:
                    self.assertEqual(form_of(walked(program[1], opened(program), 200)[1]), one)
                    term = opened(program)
                    left = step_places(program[1], term)
                    while left:
                        term = stepped(program[1], term, chance.choice(left), 200)
                        left = step_places(program[1], term)
                except TooMany:
                    continue
                self.assertEqual(form_of(term), one)
                whole += 1
        self.assertGreater(whole, 80)

    def test_alike_or_parted(self):
        seen = {"alike": 0, "part": 0}
        for shape, drawer, programs in drawn(110, 40, 20, 2):
            for one, other in zip(programs, programs[4:]):
                forms = plain(shape, one, 60), plain(shape, other, 60)
                found = alike(shape, one, other, 60)
                least = least_part(shape, one, other, 60)
                seen[found[0]] += 1
                self.assertEqual(found[0] == "alike", forms[0] == forms[1])
                if found[0] == "alike":
                    self.assertIsNone(least)
                    world = drawer.world(shape)
                    self.assertFalse(parts_at(shape, one, other, world, inputs_of(drawer, one, world), 60))
                    continue
                self.assertTrue(look_world(shape, found[1]) and look_world(shape, least[0]))
                self.assertTrue(parts_at(shape, one, other, found[1], found[2], 60))
                self.assertTrue(parts_at(shape, one, other, least[0], least[1], 60))
                self.assertLessEqual(least[0][0], found[1][0])
                self.assertLessEqual(found[1][0], len(laid(forms)[0]))
        self.assertGreater(min(seen.values()), 5)

    def test_follows_or_parts(self):
        seen = {"follows": 0, "part": 0}
        for shape, drawer, programs in drawn(115, 60, 20, 2):
            forms = [plain(shape, one, 60) for one in programs if len(one[0]) == 1]
            for k in range(60):
                pairs = [(drawer.chance.choice(forms), drawer.chance.choice(forms)) for j in range(1 + k % 4)]
                givens, question = tuple(pairs[1:]), pairs[0]
                found = follows(shape, 1, givens, question)
                seen[found[0]] += 1
                if found[0] == "follows":
                    self.assertTrue(paper_holds(givens, question, found[1]))
                    for j in range(6):
                        world = drawer.world(shape)
                        self.assertFalse(parts_given(shape, givens, question, world, (drawer.thing(world[0]),)))
                else:
                    self.assertTrue(look_world(shape, found[1]))
                    self.assertTrue(parts_given(shape, givens, question, found[1], found[2]))
        self.assertGreater(min(seen.values()), 30)

    def test_tables(self):
        seen = {"program": 0, "belonging": 0}
        for shape, drawer, programs in drawn(120, 30):
            for k in range(40):
                points = drawer.points(shape, 2, k % 3, 3)
                found = belongings_by(shape, points)
                layers = {row: layer for row, layer, made in closing(shape, points, 60)}
                floors = dict(floors_of(shape, points, 30))
                self.assertTrue(floors_hold(shape, points, tuple(sorted(floors.items()))))
                self.assertEqual([floors[row] for row in layers], fewest(shape, points, 30))
                for table in all_rows(points):
                    said = told(shape, points, table, 60)
                    few = fewest_of(shape, points, table, 30)
                    seen[said[0]] += 1
                    self.assertEqual(said[0] == "program", all(table in rows for rows in found))
                    self.assertEqual(said[0], few[0])
                    if said[0] == "belonging":
                        self.assertIsNone(breach(shape, points, said[1]))
                        self.assertNotIn(table, said[1])
                        continue
                    told_program = program_of(said[1], k % 3)
                    for program in [told_program, program_of(few[2], k % 3)]:
                        self.assertTrue(look(shape, program))
                        for place, (world, inputs) in enumerate(points):
                            self.assertEqual(run(shape, program, world, inputs, 2000)[0], table[place])
                    self.assertEqual((depth(said[1]), deeds(few[2])), (layers[table], floors[table]))
                for program in [one for one in programs if len(one[0]) == k % 3]:
                    one = plain(shape, program, 60)
                    row = row_of(shape, points, one)
                    self.assertTrue(all(row in rows for rows in found))
                    self.assertGreaterEqual(depth(one), layers[row])
                    self.assertGreaterEqual(deeds(one), floors[row])
        self.assertGreater(min(seen.values()), 100)

    def test_moved(self):
        seen = {"move": 0, "room": 0, "bundle": 0}
        for shape, drawer, programs in drawn(125, 60):
            for program in programs:
                world, other = drawer.world(shape), drawer.world(shape, 2)
                inputs = inputs_of(drawer, program, world)
                thing, turns = run(shape, program, world, inputs, 60)
                for things in moves(shape, world, other):
                    there = run(shape, program, other, [things[each] for each in inputs], 60)
                    self.assertEqual(there, (things[thing], turns))
                    seen["move"] += 1
                for room in rooms(shape, world):
                    if set(inputs) <= set(room):
                        inner = room_world(shape, world, room)
                        there = run(shape, program, inner, [room.index(each) for each in inputs], 60)
                        self.assertEqual(there, (room.index(thing), turns))
                        seen["room"] += 1
                for bundle in bundles(shape, world):
                    least = sorted(set(bundle))
                    outer = bundle_world(shape, world, bundle)
                    there = run(shape, program, outer, [least.index(bundle[each]) for each in inputs], 60)
                    self.assertEqual(there, (least.index(bundle[thing]), turns))
                    seen["bundle"] += 1
        self.assertGreater(min(seen.values()), 100)

    def test_in_products(self):
        for shape, drawer, programs in drawn(130, 20):
            for program in programs:
                worlds = tuple(drawer.world(shape, 3) for k in range(drawer.chance.randrange(1, 4)))
                tuples = list(itertools.product(*[range(world[0]) for world in worlds]))
                whole = product(shape, worlds)
                inputs = inputs_of(drawer, program, whole)
                thing, turns = run(shape, program, whole, inputs, 60)
                for place, world in enumerate(worlds):
                    there = run(shape, program, world, [tuples[each][place] for each in inputs], 60)
                    self.assertEqual(there, (tuples[thing][place], turns))

    def test_one_deed_more(self):
        seen = {"gained": 0, "none": 0, "told": 0}
        for shape, drawer, programs in drawn(135, 10):
            for k in range(60):
                places = drawer.chance.choice((1, 2))
                points = drawer.points(shape, 1 + k % 2, k % 3, 3)
                tables = tuple(drawer.table(world[0], places) for world, inputs in points)
                if k % 3 == 0:
                    # A deed that leads to one of the things it is done on can be told.
                    tables = tuple(tuple(x if places == 1 else (x,) * world[0] for x in range(world[0]))
                                   for world, inputs in points)
                wide = tuple((wider_world(world, table), inputs) for (world, inputs), table in zip(points, tables))
                rows = [entry[0] for entry in closing(shape, points, 60)]
                wider = [entry[0] for entry in closing(wider_shape(shape, "more", places), wide, 60)]
                found = gained(shape, points, "more", places, tables, 60)
                self.assertLessEqual(set(rows), set(wider))
                self.assertEqual(found, [row for row in wider if row not in rows])
                seen["gained" if found else "none"] += 1
                worlds = tuple(world for world, inputs in points)
                try:
                    can = told_deed(shape, worlds, places, tables, 30)[0] == "program"
                except TooMany:
                    continue
                if can:
                    self.assertEqual(found, [])
                    seen["told"] += 1
        self.assertGreater(min(seen.values()), 10)

    def test_what_is_told_is_handed_on(self):
        """However great it is: a form of some hundred nodes, its program, and worlds in which it parts."""
        long = [read_program(f"inputs x\ntell (loop #i 300 y x {term})") for term in ("(mix y (s y))", "(mix (s y) y)")]
        forms = [plain(SHAPE, one, 2000) for one in long]
        programs = [program_of(one, 1) for one in forms]
        for one, program in zip(forms, programs):
            self.assertTrue(look(SHAPE, program))
            self.assertEqual(read_program(program_text(program)), program)
            self.assertEqual(plain(SHAPE, program, 2000), one)
            self.assertEqual(value(SHAPE, one, WORLD, (1,)), run(SHAPE, program, WORLD, (1,), 2000)[0])
            self.assertGreater(deeds(one), 10 ** 80)
            self.assertEqual(row_of(SHAPE, ((WORLD, (1,)),), one), (run_by(program, WORLD, (1,))[0],))
        kind, world, inputs = alike(SHAPE, long[0], long[1], 2000)
        self.assertTrue(parts_at(SHAPE, programs[0], programs[1], world, inputs, 2000))


TABLE = ((0, 1), (1, 0))
FORM = chain(2)
FORM_PROGRAM = (("a",), (), ("do", "s", (("do", "s", (("name", "a"),)),)))
LOOP = read_program("inputs x\ntell (loop #i 2 y x (s y))")
POINTS = ((WORLD, (0,)), (PAIR, [1]))
PAIRS = ((form(IN), chain(1)),)
TERM = ("do", "s", (("let", "y", BEE, ("name", "y")),))
ROWS = tuple(sorted(entry[0] for entry in closing(SHAPE, POINTS, 60)))

# Every function of the interface with its arguments in order.
CALLS = {
    "words": {"is_name": {"text": "abc"}, "is_fixed": {"text": "Abc"}, "is_shape": {"thing": SHAPE}},
    "numbers": {"value_of": {"number": ("op", "+", ("count", "i"), ("num", 2)), "counts": {"i": 3}}},
    "terms": {
        "parts": {"term": TERM}, "places": {"term": TERM}, "part_at": {"term": TERM, "place": (0, 1)},
        "replaced": {"term": TERM, "place": (0,), "part": BEE}, "deep": {"term": TERM}},
    "writer": {"shape_text": {"shape": SHAPE}, "program_text": {"program": LOOP}, "term_text": {"term": LOOP[2]}},
    "reader": {"read_shape": {"text": SHAPE_TEXT}, "read_program": {"text": "inputs\ntell A"}},
    "worldtexts": {"world_text": {"shape": SHAPE, "world": WORLD}, "read_world": {"shape": SHAPE, "text": WORLD_TEXT}},
    "looker": {"look": {"shape": SHAPE, "program": LOOP}},
    "worlds": {
        "look_world": {"shape": SHAPE, "world": WORLD},
        "done": {"shape": SHAPE, "world": WORLD, "d": "mix", "things": [1, 0]},
        "fixed_in": {"shape": SHAPE, "world": WORLD, "c": "Bee"}},
    "runs": {"run": {"shape": SHAPE, "program": LOOP, "world": WORLD, "inputs": [1], "most": 60}},
    "plain": {
        "plain": {"shape": SHAPE, "program": LOOP, "most": 60},
        "value": {"shape": SHAPE, "form": FORM, "world": WORLD, "inputs": [1]},
        "depth": {"form": FORM}, "deeds": {"form": FORM},
        "is_plain_form": {"shape": SHAPE, "inputs": 1, "thing": FORM}},
    "opened": {"opened": {"program": LOOP}, "is_plain": {"term": IN}},
    "steps": {
        "step_places": {"defs": (), "term": TERM},
        "stepped": {"defs": (), "term": TERM, "place": (0,), "most": 200},
        "walked": {"defs": (), "term": TERM, "most": 200}},
    "formed": {"form_of": {"term": s(s(IN))}, "program_of": {"form": FORM, "inputs": 1}},
    "alike": {
        "laid": {"forms": [FORM, chain(3)]},
        "alike": {"shape": SHAPE, "one": LOOP, "other": FORM_PROGRAM, "most": 60},
        "parts_at": {"shape": SHAPE, "one": LOOP, "other": FORM_PROGRAM, "world": WORLD, "inputs": [1], "most": 60}},
    "least": {"least_part": {"shape": SHAPE, "one": LOOP, "other": FORM_PROGRAM, "most": 60}},
    "joins": {"paper_holds": {"givens": PAIRS, "question": (FORM, form(IN)), "paper": (("given", 0), ("like", 1, 2))}},
    "given": {
        "follows": {"shape": SHAPE, "inputs": 1, "givens": PAIRS, "question": (FORM, form(IN))},
        "parts_given": {"shape": SHAPE, "givens": PAIRS, "question": (FORM, form(IN)), "world": WORLD, "inputs": [1]}},
    "points": {
        "row_of": {"shape": SHAPE, "points": POINTS, "form": FORM},
        "done_on": {"shape": SHAPE, "points": POINTS, "d": "mix", "rows": [[1, 0], (2, 1)]},
        "own_rows": {"shape": SHAPE, "points": POINTS}},
    "belongings": {"breach": {"shape": SHAPE, "points": POINTS, "rows": ROWS[1:]}},
    "closing": {
        "closing": {"shape": SHAPE, "points": POINTS, "most": 60},
        "told": {"shape": SHAPE, "points": POINTS, "table": [2, 1], "most": 60}},
    "fewest": {
        "fewest": {"shape": SHAPE, "points": POINTS, "most": 30},
        "fewest_of": {"shape": SHAPE, "points": POINTS, "table": [2, 1], "most": 30}},
    "floors": {
        "floors_of": {"shape": SHAPE, "points": POINTS, "most": 30},
        "floors_hold": {"shape": SHAPE, "points": POINTS, "floors": tuple((row, 0) for row in ROWS)}},
    "moves": {
        "is_move": {"shape": SHAPE, "one": WORLD, "other": ONE, "things": [0, 0, 0]},
        "moves": {"shape": SHAPE, "one": WORLD, "other": ONE}, "like": {"shape": SHAPE, "one": WORLD, "other": WORLD}},
    "rooms": {
        "least_room": {"shape": SHAPE, "world": WORLD, "things": [1]}, "rooms": {"shape": SHAPE, "world": WORLD},
        "room_world": {"shape": SHAPE, "world": WORLD, "room": (0, 1, 2)}},
    "products": {"product": {"shape": SHAPE, "worlds": (WORLD, PAIR)}},
    "bundles": {
        "bundles": {"shape": SHAPE, "world": WORLD},
        "least_bundle": {"shape": SHAPE, "world": WORLD, "pairs": ((0, 1),)},
        "bundle_world": {"shape": SHAPE, "world": WORLD, "bundle": (0, 0, 0)}},
    "wider": {
        "told_deed": {"shape": SHAPE, "worlds": (PAIR,), "places": 2, "tables": (TABLE,), "most": 30},
        "wider_shape": {"shape": SHAPE, "d": "more", "places": 2}, "wider_world": {"world": PAIR, "table": TABLE},
        "gained": {"shape": SHAPE, "points": ((PAIR, [1]),), "d": "more", "places": 2, "tables": (TABLE,), "most": 30}},
}
LISTS = ("parts", "places", "step_places", "own_rows", "closing", "fewest", "moves", "rooms", "bundles", "gained")


class TestInterface(unittest.TestCase):
    def each(self):
        for module, functions in CALLS.items():
            for name, args in functions.items():
                yield name, getattr(importlib.import_module("shapefree." + module), name), args

    def test_arguments_in_order_and_by_name(self):
        for name, function, args in self.each():
            self.assertEqual(list(inspect.signature(function).parameters), list(args), name)
            self.assertEqual(function(**args), function(*args.values()), name)
            backwards = dict(reversed(list(args.items())))
            self.assertEqual(function(**backwards), function(**args), name)

    def test_nothing_is_changed(self):
        for name, function, args in self.each():
            before = copy.deepcopy(args)
            function(**args)
            self.assertEqual(args, before, name)

    def test_told_lists_are_the_askers(self):
        seen = []
        for name, function, args in self.each():
            answer = function(**args)
            if isinstance(answer, (list, dict)):
                seen.append(name)
                before = copy.deepcopy(answer)
                answer.append("more")
                answer.reverse()
                self.assertEqual(function(**args), before, name)
                answer = function(**args)
                answer.clear()
                self.assertEqual(function(**args), before, name)
        self.assertEqual(tuple(seen), LISTS)

    def test_all_else_is_plain(self):
        def look_at(thing, name):
            self.assertIn(thing.__class__, (tuple, str, int, bool, None.__class__), name)
            if isinstance(thing, tuple):
                for part in thing:
                    look_at(part, name)
        for name, function, args in self.each():
            answer = function(**args)
            look_at(tuple(answer) if name in LISTS else answer, name)

    def test_the_same_again_whatever_was_asked_between(self):
        first = [(name, copy.deepcopy(function(**args))) for name, function, args in self.each()]
        second = [(name, function(**args)) for name, function, args in reversed(list(self.each()))]
        self.assertEqual(first, second[::-1])

    def test_lists_and_tuples(self):
        for name, function, args in self.each():
            for key in ("inputs", "things", "table", "rows"):
                if isinstance(args.get(key), list):
                    other = dict(args, **{key: tuple(args[key])})
                    self.assertEqual(function(**args), function(**other), name)

    def test_what_is_handed_in_may_be_changed_behind(self):
        inputs, table, things = [1], [2, 1], [1]
        points = ((WORLD, [0]), (PAIR, [1]))
        found = closing(SHAPE, points, 60), told(SHAPE, points, table, 60)
        copies = copy.deepcopy(found)
        self.assertEqual(run(SHAPE, LOOP, WORLD, inputs, 60), (0, 4))
        points[0][1][0], table[0], inputs[0], things[0] = 2, 0, 0, 0
        self.assertEqual(found, copies)
        self.assertEqual(run(SHAPE, LOOP, WORLD, [1], 60), (0, 4))


if __name__ == "__main__":
    unittest.main()
