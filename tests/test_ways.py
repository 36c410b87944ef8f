"""Ways and the contexts along them, neutral rows [7.9], [7.10]."""

import itertools

from cutworths.contexts import context_in, root_context, value_in
from cutworths.errors import BadContext, BadWay, NoLeaf
from cutworths.making import pentagon_lattice, set_lattice
from cutworths.trees import Tree, plain_worth, refilled_tree
from cutworths.ways import context_along, leaf_context, neutral_row, way_to
from tests.base import NO_NUMBERS, NO_SEQUENCES, Case, spreads
from tests.growing import LATTICES, Plain, as_lists, leaf_rows, some_shapes


def own_way(plain, shape, road):
    """The way to the end of a road."""
    way = []
    for at in road:
        sign, children = shape
        way.append((sign, plain.all_of(sign, [plain.worth_of(child) for child in children[:at]])))
        shape = children[at]
    return tuple(way)


def own_along(plain, way, context):
    """The context at the end of a way."""
    for sign, so_far in way:
        context = plain.inside(sign, context, so_far)
    return context


def own_neutral(plain, shape, leaf):
    """The neutral row of a leaf."""
    rows = leaf_rows(shape)
    own_road = rows[leaf][0]
    row = [worth for _, worth in rows[:leaf + 1]]
    for road, _ in rows[leaf + 1:]:
        shared = next(at for at, (one, other) in enumerate(zip(own_road, road)) if one != other)
        above = shape
        for at in road[:shared]:
            above = above[1][at]
        row.append(plain.start(above[0]))
    return tuple(row)


class TestWays(Case):
    def test_ways_and_contexts_of_leaves(self):
        for lattice in LATTICES:
            plain = Plain(lattice)
            for shape in some_shapes(lattice, "ways", 14):
                tree = Tree(shape)
                for leaf, (road, _) in enumerate(leaf_rows(shape)):
                    way = own_way(plain, shape, road)
                    self.exactly(way_to(lattice, tree, leaf), way)
                    context = own_along(plain, way, (plain.bottom, plain.top))
                    self.exactly(leaf_context(lattice, tree, leaf), context)
                    self.exactly(context_along(lattice, way), context)
                    self.exactly(context_along(lattice, as_lists(way)), context)
                    self.exactly(context_along(lattice, way, None), context)

    def test_from_another_context(self):
        lattice = pentagon_lattice()
        plain = Plain(lattice)
        items = [(sign, worth) for sign in ("joins", "meets") for worth in range(5)]
        for context in plain.contexts():
            self.exactly(context_along(lattice, (), context), context)
            self.exactly(context_along(lattice, [], list(context)), context)
            for way in itertools.product(items, repeat=2):
                self.exactly(context_along(lattice, way, context), own_along(plain, way, context))
                inner = context_in(lattice, way[0][0], context, way[0][1])
                self.exactly(context_along(lattice, way, list(context)), context_in(lattice, way[1][0], inner, way[1][1]))

    def test_the_empty_way(self):
        for lattice in LATTICES:
            self.exactly(context_along(lattice, ()), root_context(lattice))
            self.exactly(way_to(lattice, Tree(0), 0), ())
            self.exactly(leaf_context(lattice, Tree(0), 0), root_context(lattice))
            self.exactly(neutral_row(lattice, Tree(0), 0), (0,))

    def test_bad_ways(self):
        lattice = set_lattice(2)
        for way in NO_SEQUENCES:
            self.refused(BadWay, {"index": -1}, context_along, lattice, way)
        good = ("joins", 1)
        for item in ((), ("joins",), ("joins", 1, 1), ("join", 1), ("joins", 4), ("meets", -1), (1, "joins"), "ab",
                     None, 3, (None, 1), (["joins"], 1), (b"joins", 1), {"joins": 1}):
            self.refused(BadWay, {"index": 0}, context_along, lattice, [item, item])
            self.refused(BadWay, {"index": 2}, context_along, lattice, (good, list(good), item))
        for worth in NO_NUMBERS:
            self.refused(BadWay, {"index": 1}, context_along, lattice, (good, ("meets", worth)))
            self.refused(BadWay, {"index": 1}, context_along, lattice, (good, ["meets", worth]), (0, 3))

    def test_bad_contexts(self):
        lattice = set_lattice(2)
        for context in ((0, 4), (0,), [0, 3, 3], 3, "ab", (True, 3), (0, -1), ()):
            self.refused(BadContext, {}, context_along, lattice, (("joins", 1),), context)
            self.refused(BadContext, {}, context_along, lattice, (), context)
            self.refused(BadWay, {"index": 0}, context_along, lattice, [("joins", 4)], context)
            self.refused(BadWay, {"index": -1}, context_along, lattice, None, context)


class TestNeutralRow(Case):
    def test_every_leaf(self):
        for lattice in LATTICES:
            plain = Plain(lattice)
            for shape in some_shapes(lattice, "neutral", 14):
                tree = Tree(shape)
                for leaf in range(len(tree)):
                    self.exactly(neutral_row(lattice, tree, leaf), own_neutral(plain, shape, leaf))

    def test_what_it_is_for(self):
        for lattice in LATTICES:
            if not spreads(lattice.table):
                continue
            for shape in some_shapes(lattice, "for", 8):
                tree = Tree(shape)
                for leaf in range(len(tree)):
                    context = leaf_context(lattice, tree, leaf)
                    row = list(neutral_row(lattice, tree, leaf))
                    for worth in range(lattice.size):
                        row[leaf] = worth
                        self.exactly(plain_worth(lattice, refilled_tree(tree, row)), value_in(lattice, context, worth))

    def test_the_example(self):
        lattice = set_lattice(2)
        tree = Tree(("joins", (("meets", (1, 3)), ("meets", (1, 3)))))
        self.exactly(way_to(lattice, tree, 3), (("joins", 1), ("meets", 1)))
        self.exactly(leaf_context(lattice, tree, 3), (1, 1))
        self.exactly(neutral_row(lattice, tree, 0), (1, 3, 0, 0))
        self.exactly(neutral_row(lattice, tree, 2), (1, 3, 1, 3))

    def test_no_leaf(self):
        lattice = set_lattice(2)
        tree = Tree(("joins", (1, ("meets", (2, 3)))))
        for leaf in (-1, 3, 10 ** 20) + NO_NUMBERS:
            for call in (way_to, leaf_context, neutral_row):
                self.refused(NoLeaf, {"leaf": leaf}, call, lattice, tree, leaf)
