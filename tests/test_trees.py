"""Trees and their plain worths [6.1] to [6.6]."""

import random

from cutworths.errors import BadFilling, BadTree, NoNode, NoRoad, TooMany
from cutworths.making import pentagon_lattice, set_lattice, turned_lattice
from cutworths.trees import (Tree, node_worths, plain_worth, refilled_tree, same_shape, subtree_at, tree_of,
                             turned_tree)
from tests.base import NO_NUMBERS, NO_SEQUENCES, Case
from tests.edges import PLAYS_4000, PLAYS_4001, PLAYS_MANY, game
from tests.games import own_shape, plain_rules, small_games
from tests.growing import (LATTICES, TURNED_SIGN, Plain, as_lists, filled, leaf_rows, node_rows, random_shape,
                           some_shapes)

SHAPE = ("joins", (("meets", (1, 3, ("joins", (2,)))), 0, ("joins", (5, ("meets", (4, 4))))))


def chain_of(many, leaf=0):
    """A leaf below so many nodes of one child."""
    shape = leaf
    for _ in range(many):
        shape = ("joins", (shape,))
    return shape


class TestTree(Case):
    def test_attributes(self):
        tree = Tree(SHAPE)
        self.exactly(tree.shape, SHAPE)
        self.exactly(tree.nodes, (("joins", (1, 6, 7)), ("meets", (2, 3, 4)), 1, 3, ("joins", (5,)), 2, 0,
                                  ("joins", (8, 9)), 5, ("meets", (10, 11)), 4, 4))
        self.exactly(tree.parents, (None, 0, 1, 1, 1, 4, 0, 0, 7, 7, 9, 9))
        self.exactly(tree.leaves, (2, 3, 5, 6, 8, 10, 11))
        self.exactly(tree.worths, (1, 3, 2, 0, 5, 4, 4))
        self.exactly(len(tree), 7)
        self.exactly(tree.tree_depth, 3)

    def test_a_leaf(self):
        tree = Tree(15)
        self.exactly((tree.shape, tree.nodes, tree.parents, tree.leaves, tree.worths), (15, (15,), (None,), (0,), (15,)))
        self.exactly((len(tree), tree.tree_depth, tree.road_of(0), tree.node_at(()), tree.is_leaf(0), tree.leaves_under(0)),
                     (1, 0, (), 0, True, (0, 0)))

    def test_numbers_and_roads(self):
        draw = random.Random(1)
        for _ in range(150):
            shape = random_shape(draw, 16, 20, 5)
            tree = Tree(shape)
            rows = node_rows(shape)
            leaves = leaf_rows(shape)
            self.exactly(len(tree.nodes), len(rows))
            self.exactly(tree.worths, tuple(worth for _, worth in leaves))
            self.exactly(tree.tree_depth, max(len(road) for road, _ in leaves))
            for number, (road, below) in enumerate(rows):
                self.exactly(tree.road_of(number), road)
                self.exactly(tree.node_at(road), number)
                self.exactly(tree.is_leaf(number), isinstance(below, int))
                under = [leaf for leaf, (way, _) in enumerate(leaves) if way[:len(road)] == road]
                self.exactly(tree.leaves_under(number), (under[0], under[-1]))
                self.exactly(tree.parents[number], tree.node_at(road[:-1]) if road else None)
                if isinstance(below, int):
                    self.exactly(tree.nodes[number], below)
                else:
                    children = tuple(tree.node_at(road + (at,)) for at in range(len(below[1])))
                    self.exactly(tree.nodes[number], (below[0], children))
            self.exactly(tree.leaves, tuple(tree.node_at(road) for road, _ in leaves))

    def test_lists_in_the_place_of_tuples(self):
        shape = as_lists(SHAPE)
        tree = Tree(shape)
        self.exactly(tree.shape, SHAPE)
        self.assertEqual(tree, Tree(SHAPE))
        self.exactly(shape, as_lists(SHAPE))
        shape[1][0][1][0] = 9
        shape[1].pop()
        self.exactly(tree.shape, SHAPE)
        self.exactly(tree.worths, Tree(SHAPE).worths)

    def test_no_node(self):
        tree = Tree(SHAPE)
        for node in (-1, 12, 10 ** 30) + NO_NUMBERS:
            for call in (tree.road_of, tree.is_leaf, tree.leaves_under):
                self.refused(NoNode, {"node": node}, call, node)
            self.refused(NoNode, {"node": node}, subtree_at, tree, node)
        self.refused(NoNode, {"node": 1}, Tree(3).road_of, 1)

    def test_no_road(self):
        tree = Tree(SHAPE)
        for road in ((3,), (-1,), (0, 3), (0, -1), (1, 0), (0, 0, 0), (0, 2, 0, 0), (0, 2, 1), (2, 1, 2), (0, 7, 0)):
            self.refused(NoRoad, {"road": road}, tree.node_at, road)
        for step in NO_NUMBERS:
            self.refused(NoRoad, {"road": (0, step)}, tree.node_at, (0, step))
        for road in NO_SEQUENCES:
            self.refused(NoRoad, {"road": road}, tree.node_at, road)
        self.refused(NoRoad, {"road": (0,)}, Tree(3).node_at, (0,))
        self.exactly(tree.node_at((0, 2, 0)), 5)

    def test_equal_by_shape(self):
        same = Tree(as_lists(SHAPE))
        self.assertEqual(Tree(SHAPE), same)
        self.assertFalse(Tree(SHAPE) != same)
        for other in (filled(SHAPE, (1, 3, 2, 0, 5, 4, 5)), ("meets", SHAPE[1]), SHAPE[1][0], ("joins", (SHAPE,)),
                      ("joins", SHAPE[1][:2]), ("joins", SHAPE[1][::-1])):
            self.assertNotEqual(Tree(SHAPE), Tree(other))
        for other in (SHAPE, None, 3):
            self.assertNotEqual(Tree(SHAPE), other)
        self.assertNotEqual(Tree(3), 3)


class TestBadTree(Case):
    def bad(self, what, road, shape):
        self.refused(BadTree, {"what": what, "road": road}, Tree, shape)

    def test_each_word(self):
        for worth in (-1, 16, 10 ** 40):
            self.bad("worth", (), worth)
            self.bad("worth", (1,), ("meets", (0, worth)))
        for thing in (True, False, None, "joins", "3", 1.0, b"ab", {0: 1, 1: 2}, {1, 2}, (), ("joins",), [3],
                      ("joins", (1,), 2), range(2)):
            self.bad("node", (), thing)
            self.bad("node", (0, 1), ("joins", [("meets", (1, thing)), 99]))
        for sign in ("join", "", "Joins", 0, None, True, ("joins",), ["joins"], b"joins", {"joins": 1}, 3):
            self.bad("sign", (), (sign, (1,)))
            self.bad("sign", (2,), ("joins", [3, 4, [sign, (1,)]]))
        for children in ((), []) + NO_SEQUENCES:
            self.bad("children", (), ("joins", children))
            self.bad("children", (0,), ("joins", [("meets", children)]))

    def test_of_one_node_the_first_word(self):
        self.bad("sign", (), ("join", ()))
        self.bad("sign", (), ("join", 3))
        self.bad("sign", (), ["join", [16]])
        self.bad("deep", (0,) * 41, chain_of(41, 16))
        self.bad("deep", (0,) * 41, chain_of(41, ("join", ())))
        self.bad("deep", (0,) * 41, chain_of(41, True))

    def test_of_several_nodes_the_first_one(self):
        self.bad("children", (0, 1), ("joins", (("meets", (1, ("joins", ()), 16)), ("x", (1,)))))
        self.bad("worth", (0, 0, 0), ("joins", (("meets", (("joins", (-1,)), True)), ("x", (1,)))))
        self.bad("sign", (1,), ("joins", (("meets", (1, 2)), ("x", (16,)), True)))
        self.bad("node", (1, 0), ["meets", [3, ["joins", [[], 16]], chain_of(60)]])
        self.bad("deep", (0,) + (0,) * 40, ["meets", [chain_of(40), 16]])
        self.bad("worth", (0,), ["meets", [16, chain_of(60)]])

    def test_the_deepest(self):
        self.exactly(Tree(chain_of(40, 7)).tree_depth, 40)
        self.exactly(Tree(chain_of(40, 7)).road_of(40), (0,) * 40)
        self.bad("deep", (0,) * 41, chain_of(41))
        with self.assertRaises(BadTree) as caught:
            Tree(chain_of(3000))
        self.exactly((caught.exception.what, caught.exception.road), ("deep", (0,) * 41))
        self.bad("deep", (1,) + (0,) * 40, ("joins", (0, chain_of(40))))

    def test_the_most_leaves(self):
        self.exactly(len(Tree(("joins", (1,) * 4000))), 4000)
        self.bad("many", (4000,), ("joins", (1,) * 4001))
        self.bad("many", (4000,), ["joins", [1] * 4002])
        tree = Tree(("joins", (("meets", (1,) * 2000), ("joins", (("meets", (2,) * 1999), 3)))))
        self.exactly(tree.leaves_under(0), (0, 3999))
        self.bad("many", (1, 1), ("joins", (("meets", (1,) * 2000), ("joins", (("meets", (2,) * 2000), 3)))))
        self.bad("many", (1, 0, 0), ("joins", (("meets", (1,) * 4000), ("joins", (("meets", (2,)), 3)))))

    def test_behind_the_most_leaves(self):
        self.bad("worth", (4000,), ("joins", (1,) * 4000 + (16,)))
        self.bad("node", (4000,), ("joins", (1,) * 4000 + (True,)))
        self.bad("sign", (4000,), ("joins", (1,) * 4000 + (("x", (1,)),)))
        self.bad("children", (4000,), ("joins", (1,) * 4000 + (("joins", ()),)))
        self.bad("many", (4000, 0), ("joins", (1,) * 4000 + (("joins", (1,)),)))


class TestWorths(Case):
    def test_every_node_in_every_lattice(self):
        for lattice in LATTICES:
            plain = Plain(lattice)
            for shape in some_shapes(lattice, "worths", 30):
                tree = Tree(shape)
                self.exactly(node_worths(lattice, tree), tuple(plain.worth_of(below) for _, below in node_rows(shape)))
                self.exactly(plain_worth(lattice, tree), plain.worth_of(shape))

    def test_an_example(self):
        tree = Tree(("joins", (("meets", (1, 3)), ("meets", (2, 3)), ("joins", (0,)))))
        self.exactly(node_worths(set_lattice(2), tree), (3, 1, 1, 3, 2, 2, 3, 0, 0))
        self.exactly(plain_worth(pentagon_lattice(), Tree(("meets", (2, ("joins", (1, 3)))))), 2)
        self.exactly(plain_worth(set_lattice(0), Tree(("meets", (0, 0)))), 0)


class TestMadeFromTrees(Case):
    def test_refilled(self):
        tree = Tree(SHAPE)
        worths = [15, 0, 1, 2, 3, 4, 5]
        made = refilled_tree(tree, worths)
        self.exactly(made.shape, filled(SHAPE, worths))
        self.exactly(worths, [15, 0, 1, 2, 3, 4, 5])
        self.assertEqual(refilled_tree(tree, tuple(worths)), made)
        self.assertEqual(refilled_tree(made, tree.worths), tree)
        self.exactly(tree.shape, SHAPE)
        self.exactly(refilled_tree(Tree(3), (4,)).shape, 4)

    def test_bad_filling(self):
        tree = Tree(("joins", (1, ("meets", (2, 3)))))
        for worths in ((), (1, 2), (1, 2, 3, 4), (1, 2, 16), (-1, 2, 3), [1, 2, [3]]) + NO_SEQUENCES:
            self.refused(BadFilling, {}, refilled_tree, tree, worths)
        for thing in NO_NUMBERS:
            self.refused(BadFilling, {}, refilled_tree, tree, (1, thing, 3))
        self.refused(BadFilling, {}, refilled_tree, Tree(3), 3)

    def test_turned(self):
        def turned(shape):
            if isinstance(shape, int):
                return shape
            return (TURNED_SIGN[shape[0]], tuple(turned(child) for child in shape[1]))
        for lattice in LATTICES:
            other = turned_lattice(lattice)
            for shape in some_shapes(lattice, "turned", 10):
                made = turned_tree(Tree(shape))
                self.exactly(made.shape, turned(shape))
                self.exactly(plain_worth(other, made), plain_worth(lattice, Tree(shape)))
                self.assertEqual(turned_tree(made), Tree(shape))

    def test_subtrees(self):
        draw = random.Random(3)
        for _ in range(40):
            shape = random_shape(draw, 16)
            for number, (_, below) in enumerate(node_rows(shape)):
                self.exactly(subtree_at(Tree(shape), number).shape, below)

    def test_same_shape(self):
        tree = Tree(SHAPE)
        for other in (SHAPE, filled(SHAPE, (0,) * 7), as_lists(filled(SHAPE, range(7)))):
            self.exactly(same_shape(tree, Tree(other)), True)
            self.exactly(same_shape(Tree(other), tree), True)
        for other in (("meets", SHAPE[1]), ("joins", SHAPE[1][::-1]), ("joins", SHAPE[1] + (0,)), SHAPE[1][0], 3,
                      ("joins", (("joins", (1, 3, ("joins", (2,)))),) + SHAPE[1][1:]),
                      ("joins", (("meets", (1, 3, 2)),) + SHAPE[1][1:])):
            self.exactly(same_shape(tree, Tree(other)), False)
            self.exactly(same_shape(Tree(other), tree), False)
        self.exactly(same_shape(Tree(3), Tree(4)), True)
        # The same parents, with other leaves.
        self.exactly(same_shape(Tree(("joins", (1, ("joins", (2, 3))))), Tree(("joins", (("joins", (1, 2)), 3)))), False)


class TestTreeOf(Case):
    def test_random_games(self):
        games = small_games(range(120), 200)
        self.assertGreater(len(games), 80)
        for rules, start in games:
            self.exactly(tree_of(rules, start).shape, own_shape(rules, start))

    def test_from_any_position(self):
        rules = plain_rules()
        position = (("dot", "", "", "ant"), 0, 2)
        self.exactly(tree_of(rules, position).shape, own_shape(rules, position))
        over = (("", "", "dot", "ant"), 0, 2)
        self.exactly(tree_of(rules, over).shape, 3)

    def test_the_most_plays(self):
        rules, start = game(PLAYS_4000)
        self.exactly(len(tree_of(rules, start)), 4000)
        self.refused(TooMany, {"most": 4000}, tree_of, *game(PLAYS_4001))
        self.refused(TooMany, {"most": 4000}, tree_of, *game(PLAYS_MANY))
