"""Making lattices [1.9] to [1.12]."""

import itertools

from cutworths.errors import BadCount, BadCouples, BadOrder, BadSets, TooMany
from cutworths.lattices import Lattice
from cutworths.making import (chain_lattice, diamond_lattice, lattice_of_sets, lower_lattice, lower_sets,
                              pentagon_lattice, product_lattice, renamed_lattice, set_lattice, turned_lattice)
from cutworths.shapes import is_distributive
from tests.base import (Case, DIAMOND, GRID, HEXAGON, NO_NUMBERS, NO_SEQUENCES, PENTAGON, SQUARE, TABLES, numbered_anew,
                        spreads)


def tuples(table):
    return tuple(tuple(row) for row in table)


class TestPlainLattices(Case):
    def test_chains(self):
        for size in range(1, 17):
            self.exactly(chain_lattice(size).table, tuples([[x <= y for y in range(size)] for x in range(size)]))

    def test_chains_of_other_sizes(self):
        for size in NO_NUMBERS + (0, 17, -1, 10 ** 9):
            self.refused(BadCount, {"what": "size"}, chain_lattice, size)

    def test_sets(self):
        for points in range(5):
            worths = [[p for p in range(points) if number // 2 ** p % 2] for number in range(2 ** points)]
            wanted = [[set(one) <= set(other) for other in worths] for one in worths]
            self.exactly(set_lattice(points).table, tuples(wanted))

    def test_sets_of_other_sizes(self):
        for points in NO_NUMBERS + (-1, 5, 16):
            self.refused(BadCount, {"what": "points"}, set_lattice, points)

    def test_pentagon_and_diamond(self):
        self.exactly(pentagon_lattice().table, tuples(PENTAGON))
        self.exactly(diamond_lattice().table, tuples(DIAMOND))

    def test_they_are_lattices(self):
        for lattice in (chain_lattice(3), set_lattice(2), pentagon_lattice(), diamond_lattice(),
                        turned_lattice(chain_lattice(2)), renamed_lattice(chain_lattice(2), [1, 0]),
                        product_lattice(chain_lattice(2), chain_lattice(2)), lattice_of_sets([()]), lower_lattice(1, [])):
            self.assertIs(type(lattice), Lattice)


class TestTurned(Case):
    def test_at_most_is_turned(self):
        for table in TABLES:
            turned = turned_lattice(Lattice(table))
            self.exactly(turned.table, tuples(zip(*table)))
            self.assertEqual(turned.bottom, Lattice(table).top)
            self.assertEqual(turned.join_rows, Lattice(table).meet_rows)
            self.assertEqual(turned_lattice(turned), Lattice(table))


class TestRenamed(Case):
    def test_all_orders(self):
        for table in (PENTAGON, DIAMOND, SQUARE):
            for order in itertools.permutations(range(len(table))):
                self.exactly(renamed_lattice(Lattice(table), order).table, tuples(numbered_anew(table, order)))
                self.assertEqual(renamed_lattice(Lattice(table), list(order)), renamed_lattice(Lattice(table), order))

    def test_no_order_at_all(self):
        for thing in NO_SEQUENCES + ([], (0, 1), [0, 1, 2, 3, 4, 5], ()):
            self.refused(BadOrder, {"index": -1}, renamed_lattice, Lattice(PENTAGON), thing)

    def test_entries_that_do_not_fit(self):
        for at in range(5):
            for thing in NO_NUMBERS + (-1, 5, 0.0, 3.0):
                order = [4, 3, 2, 1, 0]
                order[at] = thing
                self.refused(BadOrder, {"index": at}, renamed_lattice, Lattice(PENTAGON), order)

    def test_entries_that_stand_earlier(self):
        self.refused(BadOrder, {"index": 1}, renamed_lattice, Lattice(PENTAGON), (0, 0, 1, 2, 3))
        self.refused(BadOrder, {"index": 4}, renamed_lattice, Lattice(PENTAGON), (3, 2, 1, 0, 3))
        self.refused(BadOrder, {"index": 2}, renamed_lattice, Lattice(PENTAGON), (3, 2, 2, 9, True))
        self.refused(BadOrder, {"index": 2}, renamed_lattice, Lattice(PENTAGON), (3, 2, 9, 3, 3))

    def test_the_order_is_not_changed(self):
        order = [1, 0, 2, 4, 3]
        renamed_lattice(Lattice(PENTAGON), order)
        self.assertEqual(order, [1, 0, 2, 4, 3])


class TestProduct(Case):
    def test_products(self):
        for one, other in itertools.product(TABLES, repeat=2):
            if len(one) * len(other) > 16:
                self.refused(TooMany, {"most": 16}, product_lattice, Lattice(one), Lattice(other))
                continue
            size = len(one) * len(other)
            wanted = [[one[x // len(other)][y // len(other)] and other[x % len(other)][y % len(other)]
                       for y in range(size)] for x in range(size)]
            product = product_lattice(Lattice(one), Lattice(other))
            self.exactly(product.table, tuples(wanted))
            self.assertEqual(is_distributive(product), spreads(one) and spreads(other))

    def test_sixteen_are_the_most(self):
        self.assertEqual(product_lattice(chain_lattice(4), chain_lattice(4)).size, 16)
        self.assertEqual(product_lattice(chain_lattice(1), chain_lattice(16)).size, 16)
        self.refused(TooMany, {"most": 16}, product_lattice, pentagon_lattice(), set_lattice(2))
        self.refused(TooMany, {"most": 16}, product_lattice, chain_lattice(1 + 16 // 2), chain_lattice(2))

    def test_which_comes_first(self):
        self.exactly(product_lattice(chain_lattice(2), chain_lattice(3)).table, tuples(GRID))


class TestLatticeOfSets(Case):
    def test_contained_is_at_most(self):
        for sets in ([()], [(3,)], [(0, 15), (0,)], [(), (0,), (1,), (0, 1)], [(0, 1, 2), (), (1,), (2,), (0,)],
                     [(0, 1), (0,), (), (2,), (0, 1, 2)], [[], [7], [7, 9], [7, 11], [7, 9, 11]],
                     [[p for p in range(4) if n // 2 ** p % 2] for n in range(15, -1, -1)],
                     [tuple(range(k)) for k in range(16)], ([0, 1, 2], (0, 1), [1, 2], (1,))):
            wanted = [[set(one) <= set(other) for other in sets] for one in sets]
            self.exactly(lattice_of_sets(sets).table, tuples(wanted))
            self.assertEqual(lattice_of_sets(tuple(tuple(one) for one in sets)), lattice_of_sets(sets))

    def test_what_is_passed_is_not_changed(self):
        sets = [[0, 1], [0], []]
        lattice = lattice_of_sets(sets)
        self.assertEqual(sets, [[0, 1], [0], []])
        sets[0].append(5)
        self.assertEqual(lattice, lattice_of_sets([[0, 1], [0], []]))

    def test_no_sets_at_all(self):
        for thing in NO_SEQUENCES + ([], (), [(), ] * 17, [tuple(range(k)) for k in range(17)]):
            self.refused(BadSets, {"what": "sets", "at": ()}, lattice_of_sets, thing)

    def test_what_is_no_set(self):
        for thing in NO_SEQUENCES + ([1, 0], (1, 1), [16], [-1], [0, 16], [True], [0, True], ["0"], [0.0], [None],
                                     [(0,)], (2, 3, 3), (5, 4, 6), [0, 1.0], list(range(17))):
            self.refused(BadSets, {"what": "set", "at": (0,)}, lattice_of_sets, [thing, (), ()])
            self.refused(BadSets, {"what": "set", "at": (2,)}, lattice_of_sets, [(0,), (1,), thing, (0,)])

    def test_equal_sets(self):
        self.refused(BadSets, {"what": "twice", "at": (1,)}, lattice_of_sets, [(1,), [1]])
        self.refused(BadSets, {"what": "twice", "at": (3,)}, lattice_of_sets, [(), (1, 2), (1,), [1, 2], (), (2, 1)])

    def test_shared_points_are_no_set(self):
        self.refused(BadSets, {"what": "meet", "at": (0, 1)}, lattice_of_sets, [(0,), (1,)])
        self.refused(BadSets, {"what": "meet", "at": (1, 2)}, lattice_of_sets, [(0, 1, 2), (0, 1), (1, 2)])
        self.refused(BadSets, {"what": "meet", "at": (0, 3)}, lattice_of_sets,
                     [(0, 1), (0, 1, 2, 3), (0,), (1, 2), (0, 2)])

    def test_no_set_contains_all(self):
        self.refused(BadSets, {"what": "top", "at": ()}, lattice_of_sets, [(0,), (), (1,)])
        self.refused(BadSets, {"what": "top", "at": ()}, lattice_of_sets, [(3,), (3, 4), (3, 5, 6, 7)])

    def test_the_first_fault_is_told(self):
        self.refused(BadSets, {"what": "twice", "at": (1,)}, lattice_of_sets, [(0,), (0,), (1, 1)])
        self.refused(BadSets, {"what": "set", "at": (1,)}, lattice_of_sets, [(0,), (1, 1), (0,)])
        self.refused(BadSets, {"what": "twice", "at": (2,)}, lattice_of_sets, [(0,), (1,), (0,)])
        self.refused(BadSets, {"what": "set", "at": (2,)}, lattice_of_sets, [(0,), (1,), 5])
        self.refused(BadSets, {"what": "meet", "at": (0, 2)}, lattice_of_sets, [(0,), (0, 1), (2,)])

    def test_each_closed_family_is_a_lattice(self):
        all_sets = [tuple(p for p in range(3) if n // 2 ** p % 2) for n in range(8)]
        many = 0
        for truths in itertools.product((False, True), repeat=8):
            sets = [points for points, truth in zip(all_sets, truths) if truth]
            if not sets:
                continue
            closed = all(tuple(p for p in one if p in other) in sets for one in sets for other in sets)
            topped = any(all(set(one) <= set(top) for one in sets) for top in sets)
            if closed and topped:
                many += 1
                self.assertEqual(lattice_of_sets(sets).size, len(sets))
            else:
                self.refused(BadSets, {"what": "meet" if not closed else "top"}, lattice_of_sets, sets)
        self.assertGreater(many, 61)


class TestLowerSets(Case):
    def lower(self, points, couples):
        """All lower sets, straight from the definition."""
        found = []
        for truths in itertools.product((False, True), repeat=points):
            if all(truths[x] or not truths[y] for x, y in couples):
                found.append(tuple(p for p in range(points) if truths[p]))
        return tuple(sorted(found, key=lambda held: (len(held), held)))

    def check(self, points, couples):
        wanted = self.lower(points, couples)
        if len(wanted) > 16:
            self.refused(TooMany, {"most": 16}, lower_sets, points, couples)
            self.refused(TooMany, {"most": 16}, lower_lattice, points, couples)
            return
        self.exactly(lower_sets(points, couples), wanted)
        lattice = lower_lattice(points, couples)
        self.exactly(lattice.table, tuples([[set(one) <= set(other) for other in wanted] for one in wanted]))
        self.assertTrue(spreads(lattice.table))

    def test_all_couples_of_up_to_three_points(self):
        self.check(0, ())
        for points in (1, 2, 3):
            couples = list(itertools.product(range(points), repeat=2))
            for truths in itertools.product((False, True), repeat=len(couples)):
                self.check(points, [couple for couple, truth in zip(couples, truths) if truth])

    def test_some_couples_of_more_points(self):
        self.check(4, [])
        self.check(5, [])
        self.check(5, [(0, 1)])
        self.check(5, [(0, 1), (1, 2), (3, 4), (4, 3)])
        self.check(5, ([4, 0], [3, 0], (4, 0), (2, 2)))
        self.check(6, [(0, 1), (2, 3), (4, 5), (5, 0), (2, 0)])
        self.check(6, [(1, 0), (2, 1), (3, 2), (0, 3)])
        self.check(15, [(x + 1, x) for x in range(14)])
        self.check(14, [(x, x + 1) for x in range(13)])
        self.check(15, [(x, (x + 1) % 15) for x in range(15)])
        self.check(9, [(0, x) for x in range(1, 9)] + [(x, x + 1) for x in range(1, 5)])

    def test_fifteen_points_make_sixteen_lower_sets(self):
        self.assertEqual(lower_lattice(15, [(x + 1, x) for x in range(14)]), chain_lattice(16))
        self.refused(TooMany, {"most": 16}, lower_sets, 15, [(x, x + 1) for x in range(13)])
        self.refused(TooMany, {"most": 16}, lower_sets, 15, [])

    def test_seventeen_lower_sets_are_too_many(self):
        self.assertEqual(lower_lattice(4, []).size, 16)
        self.refused(TooMany, {"most": 16}, lower_sets, 5, [(point, 4) for point in range(4)])
        self.refused(TooMany, {"most": 16}, lower_lattice, 5, [(4, point) for point in range(4)])

    def test_points_that_do_not_fit(self):
        for call in (lower_sets, lower_lattice):
            for points in NO_NUMBERS + (-1, 16):
                self.refused(BadCount, {"what": "points"}, call, points, [])
                self.refused(BadCount, {"what": "points"}, call, points, 5)

    def test_couples_that_do_not_fit(self):
        for call in (lower_sets, lower_lattice):
            for thing in NO_SEQUENCES:
                self.refused(BadCouples, {"index": -1}, call, 2, thing)
                self.refused(BadCouples, {"index": 1}, call, 2, [(0, 1), thing, (7, 7)])
            for thing in ((), (0,), (0, 1, 1), (0, 2), (-1, 0), (2, 0), (0, True), (False, 1), ("0", 1), (1.0, 0)):
                self.refused(BadCouples, {"index": 0}, call, 2, [thing, 5])
                self.refused(BadCouples, {"index": 2}, call, 2, ((0, 1), [1, 1], thing))
            self.refused(BadCouples, {"index": 0}, call, 0, [(0, 0)])
            self.refused(BadCouples, {"index": 0}, call, 15, [(0, 15)])

    def test_what_is_passed_is_not_changed(self):
        couples = [[1, 0], [2, 2]]
        lower_sets(3, couples)
        self.assertEqual(couples, [[1, 0], [2, 2]])


class TestOrders(Case):
    def test_turned_and_renamed_keep_the_one_passed(self):
        lattice = Lattice(HEXAGON)
        turned_lattice(lattice)
        renamed_lattice(lattice, (5, 4, 3, 2, 1, 0))
        self.exactly(lattice.table, tuples(HEXAGON))
