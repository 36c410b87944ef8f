"""Moves and the positions behind them [5.3], [5.4]."""

import random

from cutworths.errors import NotAMove
from cutworths.moves import after_move, is_stuck, move_between, moves_by, moves_of
from cutworths.boards import Board
from cutworths.rules import Rules
from tests.base import Case
from tests.games import changed, own_behind, own_moves, own_moves_by, plain_rules, random_rules, reached

GAMES = [random_rules(seed) for seed in range(150)]


def some_positions(rules, seed):
    """Positions that are reached, and some of any contents."""
    draw = random.Random(seed)
    contents = [""] + list(rules.kind_names)
    free = [(tuple(draw.choice(contents) for _ in range(rules.board.size)), draw.randrange(2), draw.randrange(9))
            for _ in range(6)]
    return reached(rules, 20) + free


def game():
    """A game in which each form of move rule gives several moves."""
    arrows = [("go", [(3, 0), (0, 1), (1, 2), (2, 3), (0, 3)]), ("up", [(0, 1), (2, 1)])]
    moves = [("pass", 0), ("place", "dot", [3, 1, 2]), ("step", "dot", "up"), ("step", "dot", "go"), ("take", "dot", "go"),
             ("turn", "dot", "king"), ("pass", 1), ("take", "ant", "go"), ("turn", "ant", "dot"), ("step", "king", "go"),
             ("pass", 0), ("step", "ant", "up")]
    return Rules(Board(4, arrows), [("dot", 0), ("ant", 1), ("king", 0)], moves[:8], [], (0, 0, 0), 4,
                 ("dot", "", "ant", "dot"), 0, 1)


class TestMovesBy(Case):
    def test_each_form(self):
        rules, position = game(), (("dot", "", "ant", "dot"), 0, 4)
        for rule, wanted in (
                (("pass", 0), (("pass",),)), (("pass", 1), (("pass",),)),
                (("place", "dot", (1, 2, 3)), (("place", "dot", 1),)), (("place", "ant", (0, 2)), ()),
                (("step", "dot", "go"), (("step", "dot", 0, 1),)), (("step", "dot", "up"), (("step", "dot", 0, 1),)),
                (("step", "ant", "up"), (("step", "ant", 2, 1),)), (("step", "ant", "go"), ()), (("step", "king", "go"), ()),
                (("take", "dot", "go"), ()), (("take", "ant", "go"), (("take", "ant", 2, 3),)), (("take", "king", "go"), ()),
                (("turn", "dot", "king"), (("turn", "dot", 0, "king"), ("turn", "dot", 3, "king"))),
                (("turn", "ant", "dot"), (("turn", "ant", 2, "dot"),)), (("turn", "king", "dot"), ())):
            self.exactly(moves_by(rules, position, rule), wanted)

    def test_whichever_side_is_to_move_and_whatever_is_left(self):
        for at, rules in enumerate(GAMES):
            for cells, side, left in some_positions(rules, at):
                for rule in rules.moves:
                    wanted = tuple(own_moves_by(rules, cells, rule))
                    self.exactly(moves_by(rules, (cells, side, left), rule), wanted)
                    self.exactly(moves_by(rules, (cells, 1 - side, 0), rule), wanted)

    def test_an_empty_board(self):
        rules, position = game(), (("",) * 4, 0, 4)
        self.exactly(moves_by(rules, position, ("place", "king", (0, 1, 3))),
                     (("place", "king", 0), ("place", "king", 1), ("place", "king", 3)))
        for rule in (("step", "dot", "go"), ("take", "dot", "go"), ("turn", "dot", "king")):
            self.exactly(moves_by(rules, position, rule), ())

    def test_a_take_is_of_another_side(self):
        rules = game()
        for prey, wanted in (("", ()), ("dot", ()), ("king", ()), ("ant", (("take", "dot", 0, 1),))):
            self.exactly(moves_by(rules, (("dot", prey, "", ""), 0, 1), ("take", "dot", "go")), wanted)
        for prey, wanted in (("", ()), ("ant", ()), ("king", (("take", "ant", 0, 1),)), ("dot", (("take", "ant", 0, 1),))):
            self.exactly(moves_by(rules, (("ant", prey, "", ""), 0, 1), ("take", "ant", "go")), wanted)


class TestMovesOf(Case):
    def test_each_side(self):
        self.exactly(moves_of(game(), (("dot", "", "ant", "dot"), 0, 4)),
                     (("pass",), ("place", "dot", 1), ("step", "dot", 0, 1), ("turn", "dot", 0, "king"),
                      ("turn", "dot", 3, "king")))
        self.exactly(moves_of(game(), (("dot", "", "ant", "dot"), 1, 4)), (("pass",), ("take", "ant", 2, 3)))

    def test_ascending_and_each_once(self):
        for at, rules in enumerate(GAMES):
            for position in some_positions(rules, at):
                self.exactly(moves_of(rules, position), own_moves(rules, position))
                self.exactly(moves_of(rules, (position[0], position[1], 0)), own_moves(rules, position))
                self.exactly(is_stuck(rules, position), own_moves(rules, position) == ())

    def test_ends_do_not_matter(self):
        rules = changed(game(), ends=[(("all", ()), 0)])
        self.exactly(moves_of(rules, (("", "", "ant", ""), 0, 0)), moves_of(game(), (("", "", "ant", ""), 0, 3)))
        self.assertEqual(len(moves_of(rules, (("", "", "ant", ""), 0, 0))), 3)


class TestAfterMove(Case):
    def test_each_form(self):
        rules, cells = game(), ("dot", "", "ant", "dot")
        for side, move, wanted in (
                (0, ("pass",), cells), (0, ("place", "dot", 1), ("dot", "dot", "ant", "dot")),
                (0, ("step", "dot", 0, 1), ("", "dot", "ant", "dot")), (1, ("take", "ant", 2, 3), ("dot", "", "", "ant")),
                (0, ("turn", "dot", 3, "king"), ("dot", "", "ant", "king")), (1, ("pass",), cells)):
            for left in (1, 4, 8):
                self.exactly(after_move(rules, (cells, side, left), move), (wanted, 1 - side, left - 1))

    def test_all_moves(self):
        for at, rules in enumerate(GAMES):
            for position in some_positions(rules, at):
                position = (position[0], position[1], max(1, position[2]))
                behind = []
                for move in own_moves(rules, position):
                    behind.append(after_move(rules, position, move))
                    self.exactly(behind[-1], own_behind(position, move))
                    self.exactly(move_between(rules, position, behind[-1]), move)
                self.assertEqual(len(set(behind)), len(behind))

    def test_what_is_no_move(self):
        rules, position = game(), (("dot", "", "ant", "dot"), 0, 4)
        for move in ((), ("pass", 0), ("Pass",), ("place", "dot", 0), ("place", "dot", 3), ("place", "dot", 9),
                     ("place", "ant", 1), ("place", "dot"), ("place", "dot", 1, 1), ("place", "dot", "1"),
                     ("place", "dot", [1]), ("step", "dot", 0, 3), ("step", "dot", 3, 0), ("step", "dot", 1, 2),
                     ("step", "ant", 2, 1), ("take", "dot", 0, 1), ("take", "ant", 2, 3), ("turn", "dot", 2, "king"),
                     ("turn", "dot", 0, "ant"), ("turn", "king", 0, "dot"), (None,), ([],), (("pass",),), ("none",)):
            self.refused(NotAMove, {"move": move}, after_move, rules, position, move)

    def test_no_move_is_left(self):
        rules = game()
        for side in (0, 1):
            position = (("dot", "", "ant", "dot"), side, 0)
            for move in moves_of(rules, position):
                self.refused(NotAMove, {"move": move}, after_move, rules, position, move)
                self.exactly(move_between(rules, position, own_behind(position, move)), None)

    def test_equal_decides(self):
        rules = game()
        cells = ("dot", "", "ant", "dot")
        self.exactly(after_move(rules, (cells, 0, 4), ("place", "dot", True)), (("dot", "dot", "ant", "dot"), 1, 3))
        self.exactly(after_move(rules, (cells, 0, 4), ("place", "dot", 1.0)), (("dot", "dot", "ant", "dot"), 1, 3))
        self.exactly(after_move(rules, (cells, 0, 4), ("step", "dot", False, 1.0)), (("", "dot", "ant", "dot"), 1, 3))
        self.exactly(after_move(rules, (cells, 0, 4), ("turn", "dot", 3.0, "king")), (("dot", "", "ant", "king"), 1, 3))
        self.exactly(move_between(rules, (cells, 0, 4), (("dot", "dot", "ant", "dot"), True, 3.0)), ("place", "dot", 1))

    def test_ends_are_not_looked_at(self):
        rules = changed(game(), ends=[(("all", ()), 0)])
        self.exactly(after_move(rules, (("dot", "", "", ""), 0, 1), ("pass",)), (("dot", "", "", ""), 1, 0))

    def test_nothing_is_changed(self):
        position, move = (("dot", "", "ant", "dot"), 0, 4), ("place", "dot", 1)
        after_move(game(), position, move)
        self.exactly((position, move), ((("dot", "", "ant", "dot"), 0, 4), ("place", "dot", 1)))


class TestMoveBetween(Case):
    def test_positions_that_no_move_leads_to(self):
        rules, cells = game(), ("dot", "", "ant", "dot")
        for other in ((cells, 0, 4), (cells, 0, 3), (cells, 1, 4), (cells, 1, 2), (("dot", "", "", "ant"), 1, 3),
                      (("dot", "ant", "ant", "dot"), 1, 3), (("", "", "ant", "dot"), 1, 3), ()):
            self.exactly(move_between(rules, (cells, 0, 4), other), None)
        self.exactly(move_between(rules, (cells, 0, 4), (cells, 1, 3)), ("pass",))
        self.exactly(move_between(rules, (cells, 1, 4), (("dot", "", "", "ant"), 0, 3)), ("take", "ant", 2, 3))

    def test_plain_rules(self):
        rules = plain_rules()
        self.exactly(move_between(rules, (rules.start, 0, 3), (("", "king", "", "ant"), 1, 2)), ("turn", "dot", 1, "king"))
