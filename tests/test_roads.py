"""Roads through a game [6.7]."""

import inspect

from cutworths.errors import NoRoad, NotAMove
from cutworths.roads import moves_along, plays_of, position_at, road_by
from cutworths.trees import Tree, tree_of
from tests.base import NO_NUMBERS, NO_SEQUENCES, Case
from tests.edges import PLAYS_4000, game
from tests.games import (lively_games, own_behind, own_end, own_moves, own_next, own_plays, plain_rules,
                         small_games)
from tests.growing import node_rows

GAMES = lively_games(4, 30, 60) + small_games(range(200), 80, 2)


def all_roads(rules, position, road=()):
    """The couples (road, position) of the whole game."""
    found = [(road, position)]
    for at, behind in enumerate(own_next(rules, position)):
        found.extend(all_roads(rules, behind, road + (at,)))
    return found


def moves_on(rules, position, road):
    """The moves on a road."""
    moves = []
    for at in road:
        moves.append(own_moves(rules, position)[at])
        position = own_behind(position, moves[-1])
    return tuple(moves)


class TestRoads(Case):
    def test_there_and_back(self):
        self.assertGreater(len(GAMES), 40)
        for rules, start in GAMES:
            for road, position in all_roads(rules, start):
                moves = moves_on(rules, start, road)
                self.exactly(position_at(rules, start, road), position)
                self.exactly(moves_along(rules, start, road), moves)
                self.exactly(road_by(rules, start, moves), road)
                self.exactly(road_by(rules, start, list(moves)), road)

    def test_roads_are_those_of_the_tree(self):
        for rules, start in GAMES[:20]:
            tree = tree_of(rules, start)
            self.exactly([tree.road_of(node) for node in range(len(tree.nodes))],
                         [road for road, _ in all_roads(rules, start)])

    def test_the_empty_road(self):
        rules = plain_rules()
        for position in ((("dot", "", "", "ant"), 0, 2), (("", "", "dot", "ant"), 0, 2)):
            self.exactly(position_at(rules, position, ()), position)
            self.exactly(moves_along(rules, position, ()), ())
            self.exactly(road_by(rules, position, ()), ())
            self.exactly(road_by(rules, position, []), ())

    def test_no_road(self):
        for rules, start in GAMES[:25]:
            for road, position in all_roads(rules, start):
                many = len(own_next(rules, position))
                for at in (many, -1, 10 ** 20) + NO_NUMBERS:
                    for call in (position_at, moves_along):
                        self.refused(NoRoad, {"road": road + (at,)}, call, rules, start, road + (at,))
                self.refused(NoRoad, {"road": road + (many, 0, 0)}, position_at, rules, start, road + (many, 0, 0))

    def test_roads_of_other_kinds(self):
        rules = plain_rules()
        for road in NO_SEQUENCES:
            for call in (position_at, moves_along):
                self.refused(NoRoad, {"road": road}, call, rules, (("dot", "", "", "ant"), 0, 2), road)

    def test_below_an_end(self):
        rules = plain_rules()
        over = (("", "", "dot", "ant"), 1, 2)
        self.assertGreater(len(own_moves(rules, over)), 0)
        self.refused(NoRoad, {"road": (0,)}, position_at, rules, over, (0,))
        self.refused(NoRoad, {"road": (0,)}, moves_along, rules, over, (0,))
        for move in own_moves(rules, over):
            self.refused(NotAMove, {"move": move}, road_by, rules, over, (move,))

    def test_not_a_move(self):
        rules = plain_rules()
        start = (("dot", "", "", "ant"), 0, 2)
        first = own_moves(rules, start)[0]
        behind = own_behind(start, first)
        for move in (("pass",), ("place", "dot", 0), ("step", "dot", 0, 3), (), ("step", "dot", 0), ["step", "dot", 0, 1]):
            if list(move) not in [list(own) for own in own_moves(rules, start)] or isinstance(move, list):
                self.refused(NotAMove, {"move": move}, road_by, rules, start, (move,))
                self.refused(NotAMove, {"move": move}, road_by, rules, start, [move, ("pass",)])
        self.exactly(own_end(rules, behind), None)
        self.refused(NotAMove, {"move": first}, road_by, rules, start, (first, first, ("x",)))

    def test_python_decides_which_moves_are_equal(self):
        rules = plain_rules()
        start = (("dot", "", "", "ant"), 0, 2)
        at = own_moves(rules, start).index(("step", "dot", 0, 1))
        self.exactly(road_by(rules, start, (("step", "dot", False, 1.0),)), (at,))


class TestPlays(Case):
    def test_all_plays_from_the_left(self):
        for rules, start in GAMES:
            self.exactly(list(plays_of(rules, start)), own_plays(rules, start))

    def test_a_generator(self):
        self.assertTrue(inspect.isgeneratorfunction(plays_of))
        rules = plain_rules()
        over = (("", "", "dot", "ant"), 0, 2)
        self.exactly(list(plays_of(rules, over)), [((), 3)])

    def test_many_plays(self):
        rules, start = game(PLAYS_4000)
        plays = list(plays_of(rules, start))
        self.exactly(len(plays), 4000)
        self.exactly(plays, sorted(plays))
        shape = tree_of(rules, start).shape
        self.exactly(plays, [(road, below) for road, below in node_rows(shape) if isinstance(below, int)])
        self.assertEqual(Tree(shape), tree_of(rules, start))
