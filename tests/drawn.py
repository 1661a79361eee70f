"""Shapes, worlds and points drawn by a seed, and rows reckoned beside the package."""

import itertools
import random

from shapefree.closing import closing
from shapefree.errors import TooMany


class Drawer:
    """Draws the same things from the same seed on."""

    def __init__(self, seed):
        self.chance = random.Random(seed)

    def shape(self, fixed=2, deeds=3):
        """A shape with at most so many fixed things and deeds."""
        names = ("A", "Bee", "Cc", "D")[:self.chance.randrange(fixed + 1)]
        called = ("s", "mix", "input", "e")[:self.chance.randrange(deeds + 1)]
        return (names, tuple((d, self.chance.choice((1, 2))) for d in called))

    def thing(self, n):
        return self.chance.randrange(n)

    def table(self, n, places):
        if places == 0:
            return self.thing(n)
        return tuple(self.table(n, places - 1) for k in range(n))

    def world(self, shape, most=4):
        """A world of at most so many things."""
        n = self.chance.randrange(1, most + 1)
        things = tuple(self.thing(n) for c in shape[0])
        return (n, things, tuple(self.table(n, places) for d, places in shape[1]))

    def points(self, shape, many, inputs, most=4):
        worlds = [self.world(shape, most) for k in range(many)]
        return tuple((world, tuple(self.thing(world[0]) for k in range(inputs))) for world in worlds)

    def row(self, points):
        return tuple(self.thing(world[0]) for world, inputs in points)


def all_rows(points):
    """Every row that can stand there, sorted."""
    return list(itertools.product(*[range(world[0]) for world, inputs in points]))


def deed_row(shape, points, d, rows):
    """A deed done on rows, place by place."""
    at = [name for name, places in shape[1]].index(d)
    told = []
    for k, (world, inputs) in enumerate(points):
        entry = world[2][at]
        for row in rows:
            entry = entry[row[k]]
        told.append(entry)
    return tuple(told)


def own_by(shape, points):
    """The own rows, each with what it is made as."""
    told = [(tuple(inputs[k] for world, inputs in points), ("input", k)) for k in range(len(points[0][1]))]
    return told + [(tuple(world[1][k] for world, inputs in points), ("fixed", c)) for k, c in enumerate(shape[0])]


def closing_by(shape, points):
    """The closing as the document words it, however many rows it has."""
    told = []
    for row, made in own_by(shape, points):
        if row not in [entry[0] for entry in told]:
            told.append((row, 0, made))
    layer = 0
    while any(entry[1] == layer for entry in told):
        ahead = list(told)
        for d, places in shape[1]:
            for numbers in itertools.product(range(len(ahead)), repeat=places):
                if max(ahead[k][1] for k in numbers) == layer:
                    row = deed_row(shape, points, d, [ahead[k][0] for k in numbers])
                    if row not in [entry[0] for entry in told]:
                        told.append((row, layer + 1, ("do", d, numbers)))
        layer += 1
    return told


def breach_by(shape, points, rows):
    """The breach, all that is due reckoned out and the first taken."""
    due = [("order", k) for k in range(1, len(rows)) if rows[k] <= rows[k - 1]]
    due += [("own", k) for k, (row, made) in enumerate(own_by(shape, points)) if row not in rows]
    if due:
        return due[0]
    for d, places in shape[1]:
        leading = [chosen for chosen in itertools.product(rows, repeat=places)
                   if deed_row(shape, points, d, chosen) not in rows]
        if leading:
            return ("deed", d, min(leading))
    return None


def belongings_by(shape, points):
    """All belongings of points that have few rows."""
    rows = all_rows(points)
    chosen = [tuple(row for k, row in enumerate(rows) if bits >> k & 1) for bits in range(2 ** len(rows))]
    return [one for one in chosen if breach_by(shape, points, one) is None]


def small_cases(seed, many, least=1, most=30):
    """So many drawn (shape, points) whose closings have from `least` to `most` rows."""
    drawer = Drawer(seed)
    told = []
    while len(told) < many:
        shape = drawer.shape()
        points = drawer.points(shape, drawer.chance.randrange(1, 7), drawer.chance.randrange(4))
        try:
            if len(closing(shape, points, most)) >= least:
                told.append((shape, points))
        except TooMany:
            continue
    return told
