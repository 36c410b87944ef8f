"""Worlds and joined rules [15.7] to [15.9]."""

import itertools
import random

from cutworths.cutting import cut_search
from cutworths.errors import BadLead, BadWorlds, NoWorth, UnlikeRules
from cutworths.making import chain_lattice, diamond_lattice, pentagon_lattice, product_lattice, set_lattice
from cutworths.maps import all_maps
from cutworths.rules import Rules
from cutworths.trees import Tree, tree_of
from cutworths.worlds import World, joined_rules, led_along
from tests.base import NO_NUMBERS, NO_SEQUENCES, Case
from tests.games import PARTS, changed, lively_games, own_shape, parts_of, plain_rules
from tests.growing import DISTRIBUTIVE, LATTICES, Plain, filled, leaf_rows, some_shapes


def rows_of(lattices):
    """The rows of one worth of each lattice, as Python orders them."""
    return sorted(itertools.product(*[range(lattice.size) for lattice in lattices]))


def same_form(draw, lattice, shape):
    """The shape with other leaves."""
    return filled(shape, [draw.randrange(lattice.size) for _ in leaf_rows(shape)])


def some_worlds(draw, pool, many):
    """Lattices whose product has at most 16 worths."""
    found = []
    while len(found) < many:
        lattices = [draw.choice(pool) for _ in range(draw.randint(1, 4))]
        if len(rows_of(lattices)) <= 16:
            found.append(lattices)
    return found


class TestLedAlong(Case):
    def test_trees(self):
        draw = random.Random(1)
        for lattice in LATTICES:
            for shape in some_shapes(lattice, "led", 6):
                row = [draw.randrange(16) for _ in range(lattice.size)]
                wanted = filled(shape, [row[worth] for _, worth in leaf_rows(shape)])
                for given in (row, tuple(row), row + [0] * 30):
                    found = led_along(given, Tree(shape))
                    self.assertIsInstance(found, Tree)
                    self.exactly(found.shape, wanted)

    def test_maps_lead_the_plain_worth(self):
        for one, other in itertools.product([chain_lattice(3), set_lattice(2), pentagon_lattice(), diamond_lattice()], repeat=2):
            plain, led = Plain(one), Plain(other)
            for row in all_maps(one, other):
                for shape in some_shapes(one, "maps", 4):
                    self.exactly(led.worth_of(led_along(row, Tree(shape)).shape), row[plain.worth_of(shape)])

    def test_refusals(self):
        tree = Tree(("joins", (1, ("meets", (3, 2, 5)))))
        for row in NO_SEQUENCES:
            self.refused(BadLead, {"what": "row", "at": 0}, led_along, row, tree)
        for worth in (-1, 16, 10 ** 20) + NO_NUMBERS:
            self.refused(BadLead, {"what": "row", "at": 0}, led_along, (worth,), tree)
            self.refused(BadLead, {"what": "row", "at": 2}, led_along, [0, 15, worth, -1], tree)
        for many, leaf in ((0, 0), (1, 0), (2, 1), (3, 1), (4, 3), (5, 3)):
            self.refused(BadLead, {"what": "leaf", "at": leaf}, led_along, (0,) * many, tree)
        self.exactly(led_along((0,) * 6, tree).worths, (0, 0, 0, 0))


class TestWorld(Case):
    def check(self, lattices, shapes):
        trees = [Tree(shape) for shape in shapes]
        world = World(lattices, trees)
        rows = rows_of(lattices)
        tables = [lattice.table for lattice in lattices]
        self.exactly(world.lattice.table, tuple(tuple(all(table[x][y] for table, x, y in zip(tables, one, other))
                                                      for other in rows) for one in rows))
        self.exactly(world.tree.shape, filled(shapes[0], [rows.index(row) for row in zip(*[tree.worths for tree in trees])]))
        self.exactly((type(world.lattices), type(world.trees), len(world)), (tuple, tuple, len(trees)))
        self.assertEqual((world.lattices, world.trees), (tuple(lattices), tuple(trees)))
        for number, row in enumerate(rows):
            self.exactly((world.whole_worth(row), world.whole_worth(list(row))), (number, number))
            self.exactly(world.parted_worths(number), row)
        return world

    def test_in_every_lattice(self):
        draw = random.Random(2)
        for lattices in some_worlds(draw, LATTICES, 60):
            shape = draw.choice(some_shapes(lattices[0], "worlds", 12))
            shapes = [same_form(draw, lattice, shape) for lattice in lattices]
            world = self.check(lattices, shapes)
            plains = [Plain(lattice) for lattice in lattices]
            worth = Plain(world.lattice).worth_of(world.tree.shape)
            self.exactly(world.parted_worths(worth), tuple(plain.worth_of(own) for plain, own in zip(plains, shapes)))

    def test_the_search_asks_what_it_asks_in_some_tree(self):
        draw = random.Random(3)
        for lattices in some_worlds(draw, DISTRIBUTIVE, 60):
            shape = draw.choice(some_shapes(lattices[0], "asks", 12))
            world = World(lattices, [Tree(same_form(draw, lattice, shape)) for lattice in lattices])
            asked = [cut_search(lattice, tree).asked for lattice, tree in zip(world.lattices, world.trees)]
            self.exactly(cut_search(world.lattice, world.tree).asked, tuple(sorted(set(itertools.chain(*asked)))))

    def test_examples(self):
        world = World([chain_lattice(2), chain_lattice(3)], (Tree(("joins", (1, 0))), Tree(("joins", (2, 1)))))
        self.assertEqual(world.lattice, product_lattice(chain_lattice(2), chain_lattice(3)))
        self.exactly((world.tree.shape, world.whole_worth((1, 2)), world.parted_worths(4)), (("joins", (5, 1)), 5, (1, 1)))
        alone = World((pentagon_lattice(),), [Tree(3)])
        self.assertEqual((alone.lattice, alone.tree), (pentagon_lattice(), Tree(3)))
        four = World([chain_lattice(2)] * 4, [Tree(worth) for worth in (1, 0, 1, 1)])
        self.exactly((four.tree.shape, four.lattice.size, len(four)), (11, 16, 4))

    def test_equality(self):
        def world(sizes, worths):
            return World([chain_lattice(size) for size in sizes], [Tree(worth) for worth in worths])
        self.assertEqual(world((2, 3), (1, 2)), world([2, 3], [1, 2]))
        for other in (world((3, 2), (1, 1)), world((2, 3), (1, 1)), world((2,), (1,)), world((2, 4), (1, 2)), (), None):
            self.assertNotEqual(world((2, 3), (1, 2)), other)

    def test_what_is_kept(self):
        lattices, trees = [chain_lattice(2), chain_lattice(3)], [Tree(1), Tree(2)]
        world = World(lattices, trees)
        lattices.pop()
        trees[0] = Tree(0)
        self.exactly((len(world), world.trees[0].shape, len(world.lattices)), (2, 1, 2))

    def test_refusals(self):
        two, tree, other = chain_lattice(2), Tree(1), Tree(("joins", (1,)))
        for things in NO_SEQUENCES + ((), (two,) * 5, [two] * 5):
            self.refused(BadWorlds, {"what": "many"}, World, things, (tree,))
        for things in NO_SEQUENCES + ((), (tree,) * 5, (tree, other, tree, tree, tree)):
            self.refused(BadWorlds, {"what": "many"}, World, (two,), things)
        self.refused(BadWorlds, {"what": "many"}, World, (two, two), (tree,))
        self.refused(BadWorlds, {"what": "many"}, World, (), ())
        self.refused(BadWorlds, {"what": "many"}, World, [two] * 5, [tree] * 5)
        self.refused(BadWorlds, {"what": "many"}, World, (two,), (tree, other))
        five = chain_lattice(5)
        for trees in ((tree, other), (other, tree), (other, Tree(("meets", (1,))))):
            self.refused(BadWorlds, {"what": "shape"}, World, (five, five), trees)
        self.refused(BadWorlds, {"what": "shape"}, World, (two, two, two), (tree, tree, other))
        for sizes in ((4, 5), (2, 3, 3), (2, 2, 2, 3), (16, 2)):
            lattices = [chain_lattice(size) for size in sizes]
            self.refused(BadWorlds, {"what": "wide"}, World, lattices, [tree] * len(sizes))
        for sizes in ((4, 4), (2, 2, 2, 2), (16,), (16, 1), (1, 16, 1, 1), (8, 2), (5, 3)):
            self.exactly(len(World([chain_lattice(size) for size in sizes], [Tree(0)] * len(sizes))), len(sizes))

    def test_rows_and_numbers_that_do_not_fit(self):
        world = World((chain_lattice(2), chain_lattice(3)), (Tree(1), Tree(2)))
        for worths in NO_SEQUENCES + ((), (1,), (1, 2, 0), (2, 2), (1, 3), (-1, 0), (0, -1)) + tuple(
                (0, thing) for thing in NO_NUMBERS) + tuple((thing, 0) for thing in NO_NUMBERS):
            self.refused(BadWorlds, {"what": "worths"}, world.whole_worth, worths)
        for worth in (-1, 6, 10 ** 20) + NO_NUMBERS:
            self.refused(NoWorth, {"worth": worth}, world.parted_worths, worth)


class TestJoinedRules(Case):
    def others(self, draw, rules, worths):
        """The rules with other worths."""
        ends = [(condition, draw.randrange(worths)) for condition, _ in rules.ends]
        return changed(rules, ends=ends, last=[draw.randrange(worths) for _ in range(3)], worths=worths)

    def test_the_tree_is_the_worlds_tree(self):
        draw, games = random.Random(4), lively_games(4, 6, 60)
        for lattices in some_worlds(draw, LATTICES, 40):
            rules, start = draw.choice(games)
            rows = [self.others(draw, rules, lattice.size) for lattice in lattices]
            joined = joined_rules(draw.choice((rows, tuple(rows))))
            self.assertIsInstance(joined, Rules)
            world = World(lattices, [tree_of(one, start) for one in rows])
            self.exactly(joined.worths, world.lattice.size)
            self.assertEqual(tree_of(joined, start), world.tree)
            self.exactly(own_shape(joined, start), world.tree.shape)
            for name in PARTS[:3] + ("left", "start", "side"):
                self.assertEqual(getattr(joined, name), getattr(rules, name))
            numbers = rows_of(lattices)
            self.exactly(joined.last, tuple(numbers.index(row) for row in zip(*[one.last for one in rows])))
            self.exactly(joined.ends, tuple((end[0], numbers.index(tuple(one.ends[at][1] for one in rows)))
                                            for at, end in enumerate(rules.ends)))

    def test_one_alone(self):
        rules = plain_rules()
        self.assertEqual(joined_rules((rules,)), rules)

    def test_refusals(self):
        rules = plain_rules()
        for row in NO_SEQUENCES + ((), (rules,) * 5, [rules] * 5):
            self.refused(BadWorlds, {"what": "many"}, joined_rules, row)
        parts = parts_of(rules)
        unlike = [changed(rules, kinds=(("dot", 0), ("ant", 1), ("king", 1))), changed(rules, moves=parts["moves"][1:]),
                  changed(rules, ends=parts["ends"][1:]), changed(rules, ends=parts["ends"][::-1]),
                  changed(rules, left=4), changed(rules, start=("", "dot", "", "")), changed(rules, side=0),
                  changed(rules, board=plain_rules(board=type(rules.board)(4, [("go", []), ("back", [])])).board)]
        for other in unlike:
            self.refused(UnlikeRules, {"at": 1}, joined_rules, (rules, other))
            self.refused(UnlikeRules, {"at": 1}, joined_rules, [other, rules, rules])
            self.refused(UnlikeRules, {"at": 2}, joined_rules, (rules, rules, other, other))
            self.refused(UnlikeRules, {"at": 3}, joined_rules, (rules, rules, rules, other))
        self.refused(BadWorlds, {"what": "wide"}, joined_rules, (rules,) * 3)
        self.exactly(joined_rules((rules,) * 2).worths, 16)
        wide = changed(rules, worths=5)
        self.refused(BadWorlds, {"what": "wide"}, joined_rules, (rules, wide))
