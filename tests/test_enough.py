"""Lots of leaves that are enough [9.7] to [9.9]."""

import itertools
import random

from cutworths.askers import Asking, run_asking
from cutworths.enough import Within, check_lot, irreducible_lot, is_enough, least_enough, lot_asked, lot_bounds
from cutworths.errors import BadLot, NotEnough, TooMany
from cutworths.making import chain_lattice, diamond_lattice, set_lattice
from cutworths.trees import Tree
from tests.base import NO_NUMBERS, NO_SEQUENCES, Case, spreads
from tests.growing import DISTRIBUTIVE, LATTICES, SMALL, Plain, filled, leaf_rows, some_shapes

EXAMPLE = ("joins", (("meets", (1, 3)), ("meets", (1, 3))))


def own_bounds(plain, shape, lot):
    """The low and the high of the root with exactly these leaves known."""
    worths = [worth for _, worth in leaf_rows(shape)]
    return tuple(plain.worth_of(filled(shape, [worth if leaf in lot else end for leaf, worth in enumerate(worths)]))
                 for end in (plain.bottom, plain.top))


def own_enough(plain, shape, lot):
    low, high = own_bounds(plain, shape, lot)
    return low == high


def some_lots(draw, many):
    """Some lots of so many leaves, the empty one and the whole among them."""
    lots = [(), tuple(range(many))]
    return lots + [tuple(sorted(draw.sample(range(many), draw.randint(0, many)))) for _ in range(6)]


class TestLots(Case):
    def test_check_lot(self):
        tree = Tree(EXAMPLE)
        for lot, wanted in (((), ()), ([], ()), ((3, 1, 3, 0), (0, 1, 3)), ([2, 2, 2], (2,)), ((0, 1, 2, 3), (0, 1, 2, 3)),
                            (tuple(range(3, -1, -1)), (0, 1, 2, 3))):
            before = repr(lot)
            self.exactly(check_lot(tree, lot), wanted)
            self.exactly(repr(lot), before)

    def test_bad_lots(self):
        lattice, tree = set_lattice(2), Tree(EXAMPLE)
        calls = [lambda lot: check_lot(tree, lot)]
        for call in (lot_bounds, is_enough, irreducible_lot, lot_asked):
            calls.append(lambda lot, call=call: call(lattice, tree, lot))
        for call in calls:
            for lot in NO_SEQUENCES:
                self.refused(BadLot, {"index": -1}, call, lot)
            for leaf in (-1, 4, 10 ** 20) + NO_NUMBERS:
                self.refused(BadLot, {"index": 0}, call, (leaf,))
                self.refused(BadLot, {"index": 2}, call, [3, 3, leaf, -1])

    def test_bounds_in_every_lattice(self):
        for lattice in LATTICES:
            plain = Plain(lattice)
            draw = random.Random(lattice.size)
            for shape in some_shapes(lattice, "bounds", 16):
                tree = Tree(shape)
                for lot in some_lots(draw, len(tree)):
                    mixed = list(lot + lot[:1])
                    draw.shuffle(mixed)
                    low, high = own_bounds(plain, shape, lot)
                    self.exactly(lot_bounds(lattice, tree, lot), (low, high))
                    self.exactly(lot_bounds(lattice, tree, mixed), (low, high))
                    self.exactly(is_enough(lattice, tree, mixed), low == high)
                self.exactly(is_enough(lattice, tree, tuple(range(len(tree)))), True)

    def test_enough_means_that_no_other_worth_matters(self):
        for lattice in SMALL:
            plain = Plain(lattice)
            draw = random.Random(lattice.size)
            for shape in some_shapes(lattice, "matters", 20):
                worths = [worth for _, worth in leaf_rows(shape)]
                if len(worths) > 4:
                    continue
                for lot in some_lots(draw, len(worths)):
                    choices = [(worth,) if leaf in lot else plain.worths for leaf, worth in enumerate(worths)]
                    told = {plain.worth_of(filled(shape, row)) for row in itertools.product(*choices)}
                    self.exactly(is_enough(lattice, Tree(shape), lot), len(told) == 1)


class TestIrreducible(Case):
    def test_by_the_rule_in_every_lattice(self):
        for lattice in LATTICES:
            plain = Plain(lattice)
            draw = random.Random(lattice.size)
            for shape in some_shapes(lattice, "irreducible", 16):
                tree = Tree(shape)
                for lot in some_lots(draw, len(tree)):
                    if not own_enough(plain, shape, lot):
                        self.refused(NotEnough, {}, irreducible_lot, lattice, tree, lot)
                        continue
                    left = list(lot)
                    for leaf in lot[::-1]:
                        if own_enough(plain, shape, [one for one in left if one != leaf]):
                            left.remove(leaf)
                    self.exactly(irreducible_lot(lattice, tree, lot), tuple(left))
                    self.exactly(irreducible_lot(lattice, tree, list(lot[::-1] + lot)), tuple(left))

    def test_bad_lots_come_first(self):
        self.refused(BadLot, {"index": 0}, irreducible_lot, set_lattice(2), Tree(EXAMPLE), (9,))
        self.refused(NotEnough, {}, irreducible_lot, set_lattice(2), Tree(EXAMPLE), ())
        self.exactly(irreducible_lot(set_lattice(0), Tree(("joins", (0, 0))), (0, 1)), ())

    def test_many_leaves(self):
        lattice = chain_lattice(3)
        tree = Tree(("joins", (1,) * 3999 + (2,)))
        self.exactly(irreducible_lot(lattice, tree, tuple(range(4000))), (3999,))
        self.exactly(len(irreducible_lot(lattice, Tree(("joins", (1,) * 2000)), tuple(range(2000)))), 2000)

    def test_least_enough(self):
        for lattice in LATTICES:
            plain = Plain(lattice)
            for shape in some_shapes(lattice, "least", 12):
                tree = Tree(shape)
                if len(tree) > 7:
                    continue
                lots = [lot for many in range(len(tree) + 1) for lot in itertools.combinations(range(len(tree)), many)]
                enough = [set(lot) for lot in lots if own_enough(plain, shape, lot)]
                wanted = [tuple(sorted(lot)) for lot in enough if not any(other < lot for other in enough)]
                self.exactly(least_enough(lattice, tree), tuple(wanted))
                for lot in wanted:
                    self.exactly(irreducible_lot(lattice, tree, lot), lot)

    def test_the_most_leaves_for_least_enough(self):
        lattice = set_lattice(2)
        self.exactly(least_enough(lattice, Tree(("joins", (3,) * 10))), tuple((leaf,) for leaf in range(10)))
        self.refused(TooMany, {"most": 10}, least_enough, lattice, Tree(("joins", (3,) * 11)))
        self.exactly(least_enough(lattice, Tree(2)), ((0,),))
        self.exactly(least_enough(set_lattice(0), Tree(0)), ((),))
        self.exactly(least_enough(lattice, Tree(EXAMPLE)), ((0, 1, 2), (0, 2, 3)))

    def test_the_order_of_lots(self):
        # 3 alone is enough, or 1 and 2 together: fewer leaves come first, then the least.
        self.exactly(least_enough(set_lattice(2), Tree(("joins", (1, 2, 3, 2)))), ((2,), (0, 1), (0, 3)))


class TestAsked(Case):
    def test_in_every_lattice(self):
        for lattice in LATTICES:
            draw = random.Random(lattice.size)
            for shape in some_shapes(lattice, "order", 16):
                tree = Tree(shape)
                order = [draw.randrange(len(tree)) for _ in range(draw.randint(0, 2 * len(tree)))]
                asking = Asking(lattice, tree)
                for leaf in order:
                    if leaf in asking.hanging_now():
                        asking.ask_leaf(leaf)
                for passed in (order, tuple(order)):
                    found = lot_asked(lattice, tree, passed)
                    self.exactly((found.asked, found.whole), (asking.asked, asking.is_done))

    def test_orders_tell_enough_lots(self):
        for lattice in DISTRIBUTIVE:
            plain = Plain(lattice)
            draw = random.Random(lattice.size)
            for shape in some_shapes(lattice, "tell enough", 16):
                tree = Tree(shape)
                for lot in some_lots(draw, len(tree)):
                    order = draw.sample(lot, len(lot))
                    self.exactly(lot_asked(lattice, tree, order).whole, own_enough(plain, shape, lot))
                    if own_enough(plain, shape, lot):
                        least = irreducible_lot(lattice, tree, lot)
                        order = tuple(draw.sample(least, len(least)))
                        self.exactly(lot_asked(lattice, tree, order).asked, order)

    def test_what_is_done_has_asked_enough(self):
        for lattice in LATTICES:
            draw = random.Random(lattice.size)
            for shape in some_shapes(lattice, "done", 12):
                asking = Asking(lattice, Tree(shape))
                run_asking(asking, [draw.randrange(99) for _ in range(len(asking.tree))])
                self.exactly(asking.is_done, True)
                if spreads(lattice.table):
                    self.exactly(is_enough(lattice, asking.tree, asking.asked), True)

    def test_the_empty_order(self):
        for order in ((), []):
            self.exactly(vars(lot_asked(diamond_lattice(), Tree(EXAMPLE), order)), {"asked": (), "whole": False})
            self.exactly(vars(lot_asked(set_lattice(0), Tree(("joins", (0, 0))), order)), {"asked": (), "whole": True})
        self.exactly(vars(lot_asked(set_lattice(2), Tree(EXAMPLE), (1, 1, 0, 3, 2, 1))),
                     {"asked": (1, 0, 3, 2), "whole": True})


class TestWithin(Case):
    def test_a_result(self):
        within = Within((1, 0), True)
        self.assertEqual(within, Within((1, 0), True))
        for other in (Within((0, 1), True), Within((1, 0), False), ((1, 0), True), None):
            self.assertNotEqual(within, other)
        things = [object(), [1]]
        self.assertIs(Within(*things).asked, things[0])
        self.assertIs(Within(*things).whole, things[1])
