"""Grounds: trees and games from a node on [11.1], [11.2]."""

import random

from cutworths.errors import NoRoad
from cutworths.grounds import GameGround, TreeGround, ground_node, plain_told
from cutworths.lattices import Lattice
from cutworths.making import chain_lattice, set_lattice
from cutworths.trees import Tree, node_worths
from tests.base import NO_NUMBERS, NO_SEQUENCES, PENTAGON, Case
from tests.edges import PLAYS_4000, game
from tests.games import lively_games, own_next, own_shape, own_worth, plain_rules
from tests.growing import LATTICES, Plain, node_rows, random_shape, some_shapes


def game_rows(rules, position, road=()):
    """The couples (road, position) of a game."""
    found = [(road, position)]
    for at, behind in enumerate(own_next(rules, position)):
        found.extend(game_rows(rules, behind, road + (at,)))
    return found


class TestTreeGround(Case):
    def test_every_node(self):
        draw = random.Random(1)
        for _ in range(40):
            shape = random_shape(draw, 16)
            tree = Tree(shape)
            ground = TreeGround(tree)
            self.assertIs(ground.tree, tree)
            self.exactly((ground.start, ground.root_node()), (0, 0))
            for node, (_, below) in enumerate(node_rows(shape)):
                self.exactly(ground.is_end(node), isinstance(below, int))
                self.exactly(ground.key_of(node), None)
                if isinstance(below, int):
                    self.exactly(ground.end_told(node), below)
                else:
                    self.exactly((ground.sign_of(node), ground.children_of(node)), (below[0], tree.nodes[node][1]))
                inner = ground.ground_at(node)
                self.assertIs(inner.__class__, TreeGround)
                self.assertIs(inner.tree, tree)
                self.exactly((inner.start, inner.root_node()), (node, node))
                self.exactly((TreeGround(tree, node).root_node(), TreeGround(tree, start=node).start), (node, node))

    def test_roads(self):
        draw = random.Random(2)
        for _ in range(30):
            shape = random_shape(draw, 16)
            tree = Tree(shape)
            rows = node_rows(shape)
            for start, (road, _) in enumerate(rows):
                ground = TreeGround(tree, start)
                for node, (way, below) in enumerate(rows):
                    if way[:len(road)] == road:
                        rest = way[len(road):]
                        self.exactly(ground_node(ground, rest), node)
                        self.exactly(ground_node(ground, list(rest)), node)
                        many = 0 if isinstance(below, int) else len(below[1])
                        for at in (many, -1, 10 ** 20) + NO_NUMBERS:
                            self.refused(NoRoad, {"road": rest + (at,)}, ground_node, ground, rest + (at,))
                            self.refused(NoRoad, {"road": rest + (at, 0)}, ground_node, ground, rest + (at, 0))
        for road in NO_SEQUENCES:
            self.refused(NoRoad, {"road": road}, ground_node, TreeGround(Tree(("joins", (1, 2)))), road)

    def test_plain_told(self):
        for lattice in LATTICES:
            for shape in some_shapes(lattice, "told", 10):
                tree = Tree(shape)
                for start in (0, len(tree.nodes) - 1):
                    ground = TreeGround(tree, start)
                    for node, worth in enumerate(node_worths(lattice, tree)):
                        self.exactly(plain_told(lattice, ground, node), worth)


class TestGameGround(Case):
    def test_every_position(self):
        for rules, start in lively_games(5, 12, 60):
            ground = GameGround(rules)
            self.assertIs(ground.rules, rules)
            self.exactly((ground.root_node(), ground.position), (start, start))
            for _, position in game_rows(rules, start):
                worth = own_worth(rules, position)
                self.exactly(ground.is_end(position), worth is not None)
                self.exactly(ground.key_of(position), position)
                if worth is not None:
                    self.exactly(ground.end_told(position), worth)
                else:
                    self.exactly(ground.sign_of(position), ("joins", "meets")[position[1]])
                    self.exactly(ground.children_of(position), tuple(own_next(rules, position)))
                inner = ground.ground_at(position)
                self.assertIs(inner.__class__, GameGround)
                self.assertIs(inner.rules, rules)
                self.exactly((inner.root_node(), inner.position), (position, position))
                self.exactly(GameGround(rules, position=position).root_node(), position)

    def test_roads(self):
        for rules, start in lively_games(4, 6, 40):
            for place in {position for _, position in game_rows(rules, start)}:
                ground = GameGround(rules, place)
                for road, position in game_rows(rules, place):
                    self.exactly(ground_node(ground, road), position)
                    self.exactly(ground_node(ground, list(road)), position)
                    many = len(own_next(rules, position))
                    for at in (many, -1, True, None):
                        self.refused(NoRoad, {"road": road + (at,)}, ground_node, ground, road + (at,))

    def test_an_end_has_no_way_on(self):
        rules = plain_rules()
        over = (("", "", "dot", "ant"), 1, 2)
        self.refused(NoRoad, {"road": (0,)}, ground_node, GameGround(rules, over), (0,))
        self.exactly(ground_node(GameGround(rules, over), ()), over)

    def test_plain_told(self):
        for lattice in (Lattice(PENTAGON), set_lattice(2), chain_lattice(3)):
            plain = Plain(lattice)
            for rules, start in lively_games(lattice.size, 8, 60):
                for _, position in game_rows(rules, start):
                    self.exactly(plain_told(lattice, GameGround(rules), position),
                                 plain.worth_of(own_shape(rules, position)))

    def test_many_plays(self):
        rules, start = game(PLAYS_4000)
        lattice = set_lattice(2)
        self.exactly(plain_told(lattice, GameGround(rules), start), Plain(lattice).worth_of(own_shape(rules, start)))
