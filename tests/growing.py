"""Lattices and trees for the tests, and what trees are worth, worked out without the program's own functions."""

import random

from cutworths.lattices import Lattice
from tests.base import TABLES, greatest_of, least_of, spreads

LATTICES = [Lattice(table) for table in TABLES]
DISTRIBUTIVE = [Lattice(table) for table in TABLES if spreads(table)]
OTHERS = [Lattice(table) for table in TABLES if not spreads(table)]
# Those in which all couples of contexts can be gone through.
SMALL = [lattice for lattice in LATTICES if lattice.size <= 6]

TURNED_SIGN = {"joins": "meets", "meets": "joins"}


class Plain:
    """Joins and meets straight from the definition."""

    def __init__(self, lattice):
        table = lattice.table
        self.worths = range(len(table))
        self.table = table
        self.join = [[least_of(table, x, y) for y in self.worths] for x in self.worths]
        self.meet = [[greatest_of(table, x, y) for y in self.worths] for x in self.worths]
        self.bottom = next(x for x in self.worths if all(table[x]))
        self.top = next(x for x in self.worths if all(table[y][x] for y in self.worths))

    def start(self, sign):
        return self.bottom if sign == "joins" else self.top

    def take(self, sign, one, other):
        return self.join[one][other] if sign == "joins" else self.meet[one][other]

    def all_of(self, sign, worths):
        told = self.start(sign)
        for worth in worths:
            told = self.take(sign, told, worth)
        return told

    def worth_of(self, shape):
        """The plain worth of a shape."""
        if isinstance(shape, int):
            return shape
        return self.all_of(shape[0], [self.worth_of(child) for child in shape[1]])

    def led(self, context, worth):
        """What a context leads a worth to."""
        return self.join[context[0]][self.meet[context[1]][worth]]

    def parts(self, context):
        """Whether the context leads some two worths to unlike ones."""
        return len({self.led(context, worth) for worth in self.worths}) > 1

    def inside(self, sign, context, so_far):
        """The context of a child."""
        a, b = context
        if sign == "joins":
            return (self.join[a][self.meet[b][so_far]], b)
        return (a, self.meet[b][so_far])

    def contexts(self):
        return [(a, b) for a in self.worths for b in self.worths]


def random_shape(draw, size, most=12, deep=4):
    """Some shape with worths below size, some of its nodes with one child alone or of their parent's sign."""
    if deep == 0 or most <= 1 or draw.random() < 0.12:
        return draw.randrange(size)
    many = draw.choice((1, 2, 2, 3, 3, 4))
    sign = draw.choice(("joins", "meets"))
    return (sign, tuple(random_shape(draw, size, most // many, deep - 1) for _ in range(many)))


def changing_shape(draw, size, many=3, deep=4):
    """Some shape in which the signs change from node to child."""
    sign = draw.choice(("joins", "meets"))

    def grown(sign, deep):
        if deep == 0 or draw.random() < 0.15:
            return draw.randrange(size)
        return (sign, tuple(grown(TURNED_SIGN[sign], deep - 1) for _ in range(draw.randint(1, many))))
    return (sign, tuple(grown(TURNED_SIGN[sign], deep - 1) for _ in range(draw.randint(2, many))))


def some_shapes(lattice, seed, many):
    """Some shapes over a lattice, always the same for a seed."""
    draw = random.Random(f"{seed} {lattice.size}")
    shapes = [random_shape(draw, lattice.size) for _ in range(many // 2)]
    return shapes + [changing_shape(draw, lattice.size) for _ in range(many - many // 2)]


def leaf_rows(shape, road=()):
    """The couples (road, worth) of the leaves from the left."""
    if isinstance(shape, int):
        return [(road, shape)]
    return [row for at, child in enumerate(shape[1]) for row in leaf_rows(child, road + (at,))]


def node_rows(shape, road=()):
    """The couples (road, shape at it) of the nodes in the order of their numbers."""
    found = [(road, shape)]
    if not isinstance(shape, int):
        for at, child in enumerate(shape[1]):
            found.extend(node_rows(child, road + (at,)))
    return found


def filled(shape, worths):
    """The shape with other worths at its leaves."""
    left = list(worths)

    def fill(shape):
        return left.pop(0) if isinstance(shape, int) else (shape[0], tuple(fill(child) for child in shape[1]))
    return fill(shape)


def as_lists(thing):
    """Lists in the place of all tuples."""
    return [as_lists(item) for item in thing] if isinstance(thing, (list, tuple)) else thing
