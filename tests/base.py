"""What the tests share: exact comparison, refusals, and lattices made without the program."""

import itertools
import unittest

from cutworths.errors import WorthError


class Case(unittest.TestCase):
    """A test that tells tuples from lists and True from 1."""

    def exactly(self, found, wanted):
        self.assertEqual(repr(found), repr(wanted))
        self.assertEqual(found, wanted)

    def refused(self, error, told, call, *args, **named):
        """The call raises exactly this error with these attributes, and changes no argument."""
        before = repr(args)
        with self.assertRaises(WorthError) as caught:
            call(*args, **named)
        self.assertIs(type(caught.exception), error)
        for name, value in told.items():
            self.exactly(getattr(caught.exception, name), value)
        self.assertEqual(repr(args), before)


# Things that are no whole numbers, though some are equal to one.
NO_NUMBERS = (True, False, None, "1", 1.0, (1,), [1], b"1")
# Things that are no sequences, though most have items.
NO_SEQUENCES = (None, 3, True, "ab", "", {0: 1}, {0}, range(2), b"ab")
# Things that are no names.
NO_NAMES = (None, 3, "", "Go", "go1", "go ", "g-o", "abcdefghi", "\u00e4", "\u0101", "g\n", b"go", ["go"], ("g",), True)


def is_lattice_table(table):
    """Whether rows of truths form a lattice, straight from the definition."""
    worths = range(len(table))
    if not all(table[x][x] for x in worths):
        return False
    if any(table[x][y] and table[y][x] for x in worths for y in worths if x != y):
        return False
    if any(table[x][y] and table[y][z] and not table[x][z] for x in worths for y in worths for z in worths):
        return False
    return all(least_of(table, x, y) is not None and greatest_of(table, x, y) is not None
               for x in worths for y in worths)


def least_of(table, x, y):
    """The least worth that both are at most, or None."""
    above = [z for z in range(len(table)) if table[x][z] and table[y][z]]
    least = [z for z in above if all(table[z][other] for other in above)]
    return least[0] if least else None


def greatest_of(table, x, y):
    """The greatest worth that is at most both, or None."""
    below = [z for z in range(len(table)) if table[z][x] and table[z][y]]
    greatest = [z for z in below if all(table[other][z] for other in below)]
    return greatest[0] if greatest else None


def tables_of(size):
    """All tables of truths of this size in which each worth is at most itself."""
    places = [(x, y) for x in range(size) for y in range(size) if x != y]
    for truths in itertools.product((False, True), repeat=len(places)):
        table = [[x == y for y in range(size)] for x in range(size)]
        for (x, y), truth in zip(places, truths):
            table[x][y] = truth
        yield table


def table_of_covers(size, couples):
    """The table in which the couples (x, y) lead from x to y."""
    table = [[x == y or (x, y) in couples for y in range(size)] for x in range(size)]
    for _ in range(size):
        table = [[any(table[x][z] and table[z][y] for z in range(size)) for y in range(size)] for x in range(size)]
    return table


def numbered_anew(table, order):
    """The table in which the old worth w is order[w]."""
    size = len(table)
    new = [[None] * size for _ in range(size)]
    for x in range(size):
        for y in range(size):
            new[order[x]][order[y]] = table[x][y]
    return new


CHAINS = [table_of_covers(size, [(x, x + 1) for x in range(size - 1)]) for size in (1, 2, 3, 5, 16)]
SQUARE = table_of_covers(4, [(0, 1), (0, 2), (1, 3), (2, 3)])
CUBE = [[x & y == x for y in range(8)] for x in range(8)]
GRID = [[x // 3 <= y // 3 and x % 3 <= y % 3 for y in range(6)] for x in range(6)]
WIDE_SETS = [[x & y == x for y in range(16)] for x in range(16)]
PENTAGON = table_of_covers(5, [(0, 1), (1, 2), (0, 3), (2, 4), (3, 4)])
DIAMOND = table_of_covers(5, [(0, 1), (0, 2), (0, 3), (1, 4), (2, 4), (3, 4)])
HEXAGON = table_of_covers(6, [(0, 1), (1, 2), (2, 5), (0, 3), (3, 4), (4, 5)])
FOUR_WIDE = table_of_covers(6, [(0, 1), (0, 2), (0, 3), (0, 4), (1, 5), (2, 5), (3, 5), (4, 5)])
TALL_DIAMOND = table_of_covers(7, [(0, 1), (1, 2), (1, 3), (1, 4), (2, 5), (3, 5), (4, 5), (5, 6)])
# A diamond's worths, each beside a lower and an upper copy.
DIAMOND_AND_TWO = [[DIAMOND[x // 2][y // 2] and x % 2 <= y % 2 for y in range(10)] for x in range(10)]
TURNED_NAMES = [numbered_anew(PENTAGON, (3, 1, 0, 4, 2)), numbered_anew(DIAMOND, (2, 4, 1, 0, 3)),
                numbered_anew(SQUARE, (2, 0, 3, 1)), numbered_anew(GRID, (5, 0, 4, 1, 3, 2)),
                numbered_anew(HEXAGON, (5, 2, 0, 1, 3, 4)), numbered_anew(TALL_DIAMOND, (6, 4, 0, 1, 5, 2, 3))]

# Lattices of many forms, distributive and not.
TABLES = CHAINS + [SQUARE, CUBE, GRID, WIDE_SETS, PENTAGON, DIAMOND, HEXAGON, FOUR_WIDE, TALL_DIAMOND,
                   DIAMOND_AND_TWO] + TURNED_NAMES


def spreads(table):
    """Whether every meet spreads over every join, straight from the definition."""
    join = [[least_of(table, x, y) for y in range(len(table))] for x in range(len(table))]
    meet = [[greatest_of(table, x, y) for y in range(len(table))] for x in range(len(table))]
    worths = range(len(table))
    return all(meet[x][join[y][z]] == join[meet[x][y]][meet[x][z]] for x in worths for y in worths for z in worths)
