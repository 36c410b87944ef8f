"""Maps between lattices, and primes [2.1] to [2.6]."""

import itertools
import types

from cutworths.errors import BadMap, NoWorth, NotPrime, TooMany
from cutworths.lattices import Lattice
from cutworths.making import chain_lattice, diamond_lattice, lower_sets, pentagon_lattice, set_lattice
from cutworths.maps import all_maps, check_map, keeps_ends, map_fault, prime_map, prime_order, prime_rows
from tests.base import (Case, CUBE, DIAMOND, GRID, HEXAGON, NO_NUMBERS, NO_SEQUENCES, PENTAGON, SQUARE, TABLES,
                        greatest_of, is_lattice_table, least_of, numbered_anew, spreads, tables_of)


def first_loss(one, other, values):
    """What [2.3] tells of a map between two tables."""
    for x in range(len(one)):
        for y in range(x + 1, len(one)):
            if values[least_of(one, x, y)] != least_of(other, values[x], values[y]):
                return (x, y, "join")
            if values[greatest_of(one, x, y)] != greatest_of(other, values[x], values[y]):
                return (x, y, "meet")
    return None


def is_firm_in(table, worth):
    worths = range(len(table))
    return (any(not table[worth][x] for x in worths)
            and all(table[worth][x] or table[worth][y] or not table[worth][least_of(table, x, y)]
                    for x in worths for y in worths))


SMALL = [[[True]], [[True, True], [False, True]], [[x >= y for y in range(3)] for x in range(3)], SQUARE,
         numbered_anew(SQUARE, (2, 0, 3, 1)), PENTAGON, DIAMOND, numbered_anew(PENTAGON, (3, 1, 0, 4, 2))]


class TestCheckMap(Case):
    def test_maps_become_tuples(self):
        self.exactly(check_map(chain_lattice(3), set_lattice(2), [3, 0, 0]), (3, 0, 0))
        self.exactly(check_map(chain_lattice(1), chain_lattice(16), (15,)), (15,))

    def test_the_size_is_that_of_the_first(self):
        for call in (check_map, map_fault, keeps_ends):
            for thing in NO_SEQUENCES + ([], (), [0], (0, 0), (0, 0, 0, 0)):
                self.refused(BadMap, {"index": -1}, call, chain_lattice(3), set_lattice(2), thing)

    def test_values_are_worths_of_the_other(self):
        for call in (check_map, map_fault, keeps_ends):
            for thing in NO_NUMBERS + (-1, 4, {}, 0.0):
                for at in range(3):
                    values = [0, 1, 3]
                    values[at] = thing
                    self.refused(BadMap, {"index": at}, call, chain_lattice(3), set_lattice(2), values)
            self.refused(BadMap, {"index": 1}, call, chain_lattice(3), set_lattice(2), (3, 4, True))
            self.refused(BadMap, {"index": 2}, call, set_lattice(2), chain_lattice(3), (2, 2, 3, 4))

    def test_what_is_passed_is_neither_kept_nor_changed(self):
        values = [0, 1, 3]
        kept = check_map(chain_lattice(3), set_lattice(2), values)
        values[0] = 2
        self.exactly(kept, (0, 1, 3))


class TestMapFault(Case):
    def test_all_maps_of_small_lattices(self):
        for one, other in itertools.product(SMALL[:6], repeat=2):
            for values in itertools.islice(itertools.product(range(len(other)), repeat=len(one)), 0, None, 3):
                self.exactly(map_fault(Lattice(one), Lattice(other), values), first_loss(one, other, values))

    def test_some_maps_of_larger_ones(self):
        for one, other in ((CUBE, GRID), (GRID, CUBE), (HEXAGON, PENTAGON), (PENTAGON, HEXAGON), (DIAMOND, CUBE)):
            for step in range(40):
                values = [(x * (step % 7 + 1) + step // 3) % len(other) for x in range(len(one))]
                self.exactly(map_fault(Lattice(one), Lattice(other), values), first_loss(one, other, values))

    def test_join_goes_ahead_of_meet(self):
        self.exactly(map_fault(set_lattice(2), chain_lattice(2), (0, 1, 1, 1)), (1, 2, "meet"))
        self.exactly(map_fault(set_lattice(2), chain_lattice(2), (0, 0, 0, 1)), (1, 2, "join"))
        self.exactly(map_fault(set_lattice(2), chain_lattice(2), (1, 0, 0, 1)), (0, 1, "join"))
        self.exactly(map_fault(set_lattice(2), chain_lattice(4), [2, 1, 1, 2]), (0, 1, "join"))

    def test_ends(self):
        chain = chain_lattice(3)
        self.exactly(keeps_ends(chain, chain, (0, 0, 2)), True)
        self.exactly(keeps_ends(chain, chain, [0, 2, 1]), False)
        self.exactly(keeps_ends(chain, chain, [1, 1, 2]), False)
        self.exactly(keeps_ends(chain, chain, [2, 1, 0]), False)
        turned = Lattice(SMALL[2])
        self.exactly(keeps_ends(turned, chain, (2, 1, 0)), True)
        self.exactly(keeps_ends(turned, chain, (0, 1, 2)), False)
        self.exactly(keeps_ends(chain, turned, (2, 2, 0)), True)
        self.exactly(keeps_ends(chain_lattice(1), chain, (0,)), False)
        self.exactly(keeps_ends(chain, chain_lattice(1), (0, 0, 0)), True)


class TestAllMaps(Case):
    def test_all_maps_that_keep_joins_and_meets(self):
        for one, other in itertools.product(SMALL, repeat=2):
            if len(one) == len(other) == 5 and one is not PENTAGON:
                continue
            wanted = [values for values in itertools.product(range(len(other)), repeat=len(one))
                      if first_loss(one, other, values) is None]
            self.exactly(list(all_maps(Lattice(one), Lattice(other))), wanted)

    def test_it_is_a_generator(self):
        self.assertIs(type(all_maps(chain_lattice(2), chain_lattice(2))), types.GeneratorType)

    def test_five_worths_are_the_most(self):
        self.refused(TooMany, {"most": 5}, lambda: list(all_maps(chain_lattice(6), chain_lattice(1))))
        self.refused(TooMany, {"most": 5}, lambda: list(all_maps(chain_lattice(1), chain_lattice(6))))
        self.assertEqual(len(list(all_maps(chain_lattice(5), chain_lattice(1)))), 1)
        self.assertEqual(len(list(all_maps(chain_lattice(1), chain_lattice(5)))), 5)
        self.assertEqual(len(list(all_maps(chain_lattice(5), chain_lattice(5)))), 126)


class TestPrimes(Case):
    def test_firm_worths_have_maps(self):
        for table in TABLES:
            for prime in range(len(table)):
                if is_firm_in(table, prime):
                    wanted = tuple(1 if table[prime][x] else 0 for x in range(len(table)))
                    self.exactly(prime_map(Lattice(table), prime), wanted)
                    self.assertIsNone(map_fault(Lattice(table), chain_lattice(2), wanted))
                    self.assertIn(prime, Lattice(table).primes)
                else:
                    self.refused(NotPrime, {"worth": prime}, prime_map, Lattice(table), prime)

    def test_the_example(self):
        self.exactly(prime_map(pentagon_lattice(), 1), (0, 1, 1, 0, 1))
        self.exactly(prime_map(pentagon_lattice(), 3), (0, 0, 0, 1, 1))
        self.refused(NotPrime, {"worth": 2}, prime_map, pentagon_lattice(), 2)
        for worth in range(5):
            self.refused(NotPrime, {"worth": worth}, prime_map, diamond_lattice(), worth)

    def test_no_worths(self):
        for thing in NO_NUMBERS + (-1, 5):
            self.refused(NoWorth, {"worth": thing}, prime_map, pentagon_lattice(), thing)

    def test_distributive_exactly_if_all_primes_are_firm(self):
        for table in TABLES:
            self.assertEqual(all(is_firm_in(table, prime) for prime in Lattice(table).primes), spreads(table))

    def test_rows(self):
        for table in TABLES:
            lattice = Lattice(table)
            rows = prime_rows(lattice)
            self.exactly(rows, tuple(tuple(at for at, prime in enumerate(lattice.primes) if table[prime][x])
                                     for x in range(len(table))))
            for x, y in itertools.product(range(len(table)), repeat=2):
                self.assertEqual(set(rows[x]) <= set(rows[y]), table[x][y])
                self.assertEqual(set(rows[lattice.meet_of(x, y)]), set(rows[x]) & set(rows[y]))
            for x in range(len(table)):
                self.assertEqual(lattice.join_all([lattice.primes[at] for at in rows[x]]), x)

    def test_order(self):
        for table in TABLES:
            lattice = Lattice(table)
            places = range(len(lattice.primes))
            wanted = tuple((i, j) for i in places for j in places
                           if i != j and table[lattice.primes[i]][lattice.primes[j]])
            self.exactly(prime_order(lattice), wanted)

    def test_rows_are_lower_sets(self):
        for table in TABLES:
            lattice = Lattice(table)
            if spreads(table):
                couples = prime_order(lattice)
                lowers = lower_sets(len(lattice.primes), couples)
                self.assertEqual(sorted(prime_rows(lattice)), sorted(lowers))

    def test_some_rows_and_orders(self):
        self.exactly(prime_rows(pentagon_lattice()), ((), (0,), (0, 1), (2,), (0, 1, 2)))
        self.exactly(prime_order(pentagon_lattice()), ((0, 1),))
        self.exactly(prime_rows(chain_lattice(1)), ((),))
        self.exactly(prime_order(chain_lattice(1)), ())
        self.exactly(prime_order(Lattice(SMALL[2])), ((1, 0),))

    def test_all_lattices_of_four(self):
        for table in tables_of(4):
            if is_lattice_table(table):
                for prime in range(4):
                    self.assertEqual(is_firm_in(table, prime), prime in Lattice(table).primes)
