"""Lattices [1.1] to [1.5], and of the general rules what holds of them."""

import itertools

from cutworths.errors import BadLattice, NoWorth
from cutworths.lattices import Lattice, check_worth
from tests.base import (Case, CUBE, DIAMOND, FOUR_WIDE, NO_NUMBERS, NO_SEQUENCES, PENTAGON, SQUARE, TABLES, greatest_of,
                        is_lattice_table, least_of, numbered_anew, table_of_covers, tables_of)


def first_fault(table):
    """The word and place that [1.2] tells of a table of truths, or None."""
    worths = range(len(table))
    couples = [(x, y) for x in worths for y in worths if x < y]
    for x in worths:
        if not table[x][x]:
            return ("order", (x,))
    for x, y in couples:
        if table[x][y] and table[y][x]:
            return ("order", (x, y))
    for x, y, z in itertools.product(worths, repeat=3):
        if table[x][y] and table[y][z] and not table[x][z]:
            return ("order", (x, y, z))
    for x, y in couples:
        if least_of(table, x, y) is None:
            return ("join", (x, y))
    for x, y in couples:
        if greatest_of(table, x, y) is None:
            return ("meet", (x, y))
    return None


class TestTables(Case):
    def check_table(self, table):
        fault = first_fault(table)
        if fault is None:
            self.assertTrue(is_lattice_table(table))
            self.exactly(Lattice(table).table, tuple(tuple(row) for row in table))
        else:
            self.refused(BadLattice, {"what": fault[0], "at": fault[1]}, Lattice, table)

    def test_all_tables_of_up_to_three(self):
        many = 0
        for size in (1, 2, 3):
            for truths in itertools.product((False, True), repeat=size * size):
                table = [list(truths[size * x:size * x + size]) for x in range(size)]
                self.check_table(table)
                many += first_fault(table) is None
        self.assertEqual(many, 1 + 2 + 6)

    def test_all_tables_of_four_with_each_worth_at_most_itself(self):
        many = 0
        for table in tables_of(4):
            self.check_table(table)
            many += first_fault(table) is None
        self.assertEqual(many, 36)

    def test_tables_of_many_forms(self):
        for table in TABLES:
            self.check_table(table)

    def test_tables_with_one_entry_changed(self):
        for table in (SQUARE, PENTAGON, DIAMOND, FOUR_WIDE, CUBE):
            for x, y in itertools.product(range(len(table)), repeat=2):
                changed = [list(row) for row in table]
                changed[x][y] = not changed[x][y]
                self.check_table(changed)

    def test_no_join_and_no_meet(self):
        # 0 and 1 lie both under 2 and 3, between one bottom and one top.
        crossed = table_of_covers(6, [(4, 0), (4, 1), (0, 2), (0, 3), (1, 2), (1, 3), (2, 5), (3, 5)])
        self.refused(BadLattice, {"what": "join", "at": (0, 1)}, Lattice, crossed)
        self.refused(BadLattice, {"what": "join", "at": (0, 1)}, Lattice, [[True, False], [False, True]])
        self.refused(BadLattice, {"what": "meet", "at": (0, 1)}, Lattice,
                     [[True, False, True], [False, True, True], [False, False, True]])

    def test_the_first_fault_is_told(self):
        loop = [[False, True, False], [True, True, True], [False, False, False]]
        self.refused(BadLattice, {"what": "order", "at": (0,)}, Lattice, loop)
        loop[0][0] = True
        self.refused(BadLattice, {"what": "order", "at": (2,)}, Lattice, loop)
        loop[2][2] = True
        self.refused(BadLattice, {"what": "order", "at": (0, 1)}, Lattice, loop)
        loop[1][0] = False
        self.refused(BadLattice, {"what": "order", "at": (0, 1, 2)}, Lattice, loop)

    def test_sixteen_worths_are_the_most(self):
        chain = [[x <= y for y in range(17)] for x in range(17)]
        self.refused(BadLattice, {"what": "table", "at": ()}, Lattice, chain)
        self.assertEqual(Lattice([row[:16] for row in chain[:16]]).size, 16)

    def test_what_is_no_table(self):
        for thing in NO_SEQUENCES + ([], ()):
            self.refused(BadLattice, {"what": "table", "at": ()}, Lattice, thing)

    def test_what_is_no_row(self):
        for thing in NO_SEQUENCES + ([], [True], [True, True, True], (True, True, False)):
            self.refused(BadLattice, {"what": "table", "at": (0,)}, Lattice, [thing, [False, True]])
            self.refused(BadLattice, {"what": "table", "at": (1,)}, Lattice, [[True, True], thing])

    def test_what_is_no_truth(self):
        for thing in (1, 0, None, "", "True", 1.0, [], [True]):
            self.refused(BadLattice, {"what": "table", "at": (0, 0)}, Lattice, [[thing, True], [False, True]])
            self.refused(BadLattice, {"what": "table", "at": (1, 0)}, Lattice, [[True, True], [thing, True]])

    def test_rows_are_checked_one_after_another(self):
        self.refused(BadLattice, {"what": "table", "at": (0, 1)}, Lattice, [[True, 1], [True]])
        self.refused(BadLattice, {"what": "table", "at": (0,)}, Lattice, [[1], [1, 1]])
        self.refused(BadLattice, {"what": "table", "at": (1, 0)}, Lattice, [[False, True], [0, 1]])
        self.refused(BadLattice, {"what": "table", "at": (1, 1)}, Lattice, [[False, True], [False, 1]])


class TestAttributes(Case):
    def test_lists_and_tuples_make_equal_lattices(self):
        for table in TABLES:
            self.assertTrue(Lattice(table) == Lattice(tuple(tuple(row) for row in table)))
            self.assertFalse(Lattice(table) != Lattice(table))

    def test_lattices_are_equal_by_their_tables_alone(self):
        lattices = [Lattice(table) for table in TABLES]
        for one, other in itertools.product(lattices, repeat=2):
            self.assertEqual(one == other, one.table == other.table)
        for thing in (SQUARE, Lattice(SQUARE).table, 4, None, "4:", object()):
            self.assertFalse(Lattice(SQUARE) == thing)
            self.assertTrue(Lattice(SQUARE) != thing)

    def test_what_was_passed_is_neither_kept_nor_changed(self):
        table = [list(row) for row in PENTAGON]
        lattice = Lattice(table)
        self.assertEqual(table, PENTAGON)
        table[1][2] = False
        table.pop()
        self.exactly(lattice.table, tuple(tuple(row) for row in PENTAGON))
        self.assertEqual(lattice.at_most(1, 2), True)

    def test_size_and_ends(self):
        for table in TABLES:
            lattice = Lattice(table)
            worths = range(len(table))
            self.exactly(lattice.size, len(table))
            self.exactly([lattice.bottom], [x for x in worths if all(table[x][y] for y in worths)])
            self.exactly([lattice.top], [x for x in worths if all(table[y][x] for y in worths)])

    def test_joins_and_meets(self):
        for table in TABLES:
            lattice = Lattice(table)
            worths = range(len(table))
            self.exactly(lattice.join_rows, tuple(tuple(least_of(table, x, y) for y in worths) for x in worths))
            self.exactly(lattice.meet_rows, tuple(tuple(greatest_of(table, x, y) for y in worths) for x in worths))
            for x, y in itertools.product(worths, repeat=2):
                self.exactly(lattice.at_most(x, y), table[x][y])
                self.exactly(lattice.join_of(x, y), least_of(table, x, y))
                self.exactly(lattice.meet_of(x, y), greatest_of(table, x, y))

    def test_joins_and_meets_of_rows(self):
        for table in TABLES:
            lattice = Lattice(table)
            self.exactly(lattice.join_all([]), lattice.bottom)
            self.exactly(lattice.meet_all(()), lattice.top)
            for worths in itertools.islice(itertools.product(range(len(table)), repeat=3), 0, 200, 7):
                x, y, z = worths
                self.exactly(lattice.join_all([x]), x)
                self.exactly(lattice.meet_all([x]), x)
                self.exactly(lattice.join_all(list(worths)), least_of(table, least_of(table, x, y), z))
                self.exactly(lattice.meet_all(worths), greatest_of(table, greatest_of(table, x, y), z))

    def test_lower_covers_and_primes(self):
        for table in TABLES:
            lattice = Lattice(table)
            worths = range(len(table))
            for y in worths:
                covers = tuple(x for x in worths if x != y and table[x][y]
                               and not any(z not in (x, y) and table[x][z] and table[z][y] for z in worths))
                self.exactly(lattice.covers_of(y), covers)
            self.exactly(lattice.primes, tuple(y for y in worths if len(lattice.covers_of(y)) == 1))

    def test_some_primes(self):
        self.exactly(Lattice([[True]]).primes, ())
        self.exactly(Lattice(SQUARE).primes, (1, 2))
        self.exactly(Lattice(PENTAGON).primes, (1, 2, 3))
        self.exactly(Lattice(DIAMOND).primes, (1, 2, 3))
        self.exactly(Lattice(numbered_anew(SQUARE, (3, 0, 1, 2))).primes, (0, 1))
        self.exactly(Lattice(PENTAGON).covers_of(4), (2, 3))
        self.exactly(Lattice(PENTAGON).covers_of(0), ())


class TestCheckWorth(Case):
    def test_worths_are_returned(self):
        for table in TABLES:
            for worth in range(len(table)):
                self.exactly(check_worth(Lattice(table), worth), worth)

    def test_other_things_are_refused(self):
        for table in (SQUARE, [[True]], PENTAGON):
            for thing in NO_NUMBERS + (-1, len(table), len(table) + 1, 10 ** 30, {}, Lattice(table)):
                self.refused(NoWorth, {"worth": thing}, check_worth, Lattice(table), thing)
