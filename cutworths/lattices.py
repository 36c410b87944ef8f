"""Finite lattices: which worth is at most which, with their joins and meets."""

from cutworths.checks import is_sequence_of, is_whole
from cutworths.errors import BadLattice, NoWorth


def _kept_table(table):
    """Return the table as tuples, or raise for its first row or entry that is wrong."""
    if not is_sequence_of(table, 1, 16):
        raise BadLattice("table", ())
    size = len(table)
    for x in range(size):
        if not is_sequence_of(table[x], size, size):
            raise BadLattice("table", (x,))
        for y in range(size):
            if not isinstance(table[x][y], bool):
                raise BadLattice("table", (x, y))
    return tuple([tuple(row) for row in table])


def _order_fault(table):
    """Return the first place at which the table is no order, or None."""
    worths = range(len(table))
    for x in worths:
        if not table[x][x]:
            return (x,)
    for x in worths:
        for y in range(x + 1, len(table)):
            if table[x][y] and table[y][x]:
                return (x, y)
    for x in worths:
        for y in worths:
            for z in worths:
                if table[x][y] and table[y][z] and not table[x][z]:
                    return (x, y, z)
    return None


def _least_above(table, one, other):
    """Return the least worth that both are at most, or None."""
    above = [worth for worth in range(len(table)) if table[one][worth] and table[other][worth]]
    for worth in above:
        if all([table[worth][upper] for upper in above]):
            return worth
    return None


def _least_rows(table):
    """Return for each two worths the least one that both are at most, or None."""
    worths = range(len(table))
    return tuple([tuple([_least_above(table, x, y) for y in worths]) for x in worths])


def _first_gap(rows):
    """Return the least couple x < y without an entry, or None."""
    for x in range(len(rows)):
        for y in range(x + 1, len(rows)):
            if rows[x][y] is None:
                return (x, y)
    return None


def is_worth(lattice, thing):
    """Return whether the thing is a worth of the lattice."""
    return is_whole(thing, 0, lattice.size - 1)


def check_worth(lattice, worth):
    """Return the worth, or raise NoWorth."""
    if not is_worth(lattice, worth):
        raise NoWorth(worth)
    return worth


class Lattice:
    """A lattice by its table: table[x][y] is True exactly if x is at most y."""

    def __init__(self, table):
        kept = _kept_table(table)
        fault = _order_fault(kept)
        if fault is not None:
            raise BadLattice("order", fault)
        join_rows = _least_rows(kept)
        fault = _first_gap(join_rows)
        if fault is not None:
            raise BadLattice("join", fault)
        # A meet is a join in the order turned round.
        meet_rows = _least_rows([[row[x] for row in kept] for x in range(len(kept))])
        fault = _first_gap(meet_rows)
        if fault is not None:
            raise BadLattice("meet", fault)
        self.size = len(kept)
        self.table = kept
        self.join_rows = join_rows
        self.meet_rows = meet_rows
        worths = range(len(kept))
        self.bottom = [worth for worth in worths if all(kept[worth])][0]
        self.top = [worth for worth in worths if all([row[worth] for row in kept])][0]
        self.primes = tuple([worth for worth in worths if len(self.covers_of(worth)) == 1])

    def __eq__(self, other):
        return isinstance(other, Lattice) and self.table == other.table

    def at_most(self, one, other):
        """Return whether one is at most the other."""
        return self.table[one][other]

    def join_of(self, one, other):
        """Return the least worth that both are at most."""
        return self.join_rows[one][other]

    def meet_of(self, one, other):
        """Return the greatest worth that is at most both."""
        return self.meet_rows[one][other]

    def join_all(self, worths):
        """Return the join of all these worths, the bottom of none."""
        joined = self.bottom
        for worth in worths:
            joined = self.join_rows[joined][worth]
        return joined

    def meet_all(self, worths):
        """Return the meet of all these worths, the top of none."""
        met = self.top
        for worth in worths:
            met = self.meet_rows[met][worth]
        return met

    def covers_of(self, worth):
        """Return the lower covers of a worth, ascending."""
        below = [x for x in range(self.size) if x != worth and self.table[x][worth]]
        return tuple([x for x in below if not any([self.table[x][z] for z in below if z != x])])


def neutral_worth(lattice, sign):
    """Return what a node of this sign makes of no children."""
    return lattice.bottom if sign == "joins" else lattice.top


def taken_in(lattice, sign, so_far, worth):
    """Return what is so far at a node of this sign behind one more worth."""
    if sign == "joins":
        return lattice.join_of(so_far, worth)
    return lattice.meet_of(so_far, worth)


def gathered(lattice, sign, worths):
    """Return the join or the meet of all these worths."""
    # No node has more unlike worths than the lattice, however many children it has.
    unlike = sorted(set(worths))
    return lattice.join_all(unlike) if sign == "joins" else lattice.meet_all(unlike)
