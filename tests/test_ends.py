"""When a position is over, and what is played before [5.5] to [5.7]."""

import random

from cutworths.boards import Board
from cutworths.ends import condition_holds, end_of, end_worth, next_positions, open_moves
from cutworths.rules import Rules
from tests.base import Case
from tests.games import own_behind, own_end, own_holds, own_moves, own_worth, random_condition, random_rules, reached

GAMES = [random_rules(seed) for seed in range(200)]


def some_positions(rules, draw):
    """Positions that are reached, and some of any contents."""
    contents = [""] + list(rules.kind_names)
    free = [(tuple(draw.choice(contents) for _ in range(rules.board.size)), draw.randrange(2), draw.randrange(3))
            for _ in range(8)]
    return reached(rules, 20) + free


def game(ends=(), moves=(("place", "dot", (0, 1, 2, 3)), ("pass", 1))):
    """A game on a ring of four cells and a dead end."""
    arrows = [("ring", [(0, 1), (1, 2), (2, 3), (3, 0)]), ("void", []), ("jump", [(0, 2), (4, 3)])]
    return Rules(Board(5, arrows), [("dot", 0), ("ant", 1)], moves, ends, (5, 6, 7), 4, ("",) * 5, 0, 8)


def dots(text):
    """Cells with a dot for each d and an ant for each a."""
    return tuple({"d": "dot", "a": "ant"}.get(letter, "") for letter in text)


class TestConditions(Case):
    def test_each_form(self):
        rules = game()
        for condition, cells, wanted in (
                (("holds", 0, "dot"), "d    ", True), (("holds", 1, "dot"), "d    ", False),
                (("holds", 0, "dot"), "a    ", False), (("holds", 4, "ant"), "dddda", True),
                (("gone", "dot"), "     ", True), (("gone", "dot"), "a    ", True), (("gone", "dot"), "a   d", False),
                (("row", "ring", "dot", 1), "    d", True), (("row", "ring", "dot", 1), "a  a ", False),
                (("row", "void", "dot", 1), "  d  ", True), (("row", "void", "dot", 2), "ddddd", False),
                (("row", "ring", "dot", 2), "d d d", False), (("row", "ring", "dot", 2), "d  d ", True),
                (("row", "ring", "dot", 2), " dd  ", True), (("row", "ring", "dot", 2), "aa  d", False),
                (("row", "ring", "dot", 3), "dd d ", True), (("row", "ring", "dot", 3), "ddad ", True),
                (("row", "ring", "dot", 3), "dda d", False), (("row", "ring", "dot", 4), "dddd ", True),
                (("row", "ring", "dot", 4), "ddd d", False), (("row", "jump", "dot", 2), "   dd", True),
                (("row", "jump", "dot", 2), "  d d", False), (("row", "jump", "dot", 2), "d d  ", True),
                (("row", "jump", "dot", 3), "ddddd", False), (("all", ()), "     ", True),
                (("all", (("gone", "ant"), ("holds", 0, "dot"))), "d    ", True),
                (("all", (("gone", "ant"), ("holds", 0, "dot"))), "d   a", False),
                (("all", (("holds", 0, "dot"), ("gone", "ant"))), "     ", False),
                (("all", (("all", (("all", (("gone", "ant"),)),)),)), "    a", False),
                (("stuck",), "     ", False), (("stuck",), "dddd ", True), (("stuck",), "ddda ", True)):
            self.exactly(condition_holds(rules, (dots(cells), 0, 2), condition), wanted)
            self.exactly(condition_holds(rules, (dots(cells), 0, 0), condition), wanted)

    def test_stuck_is_of_the_side_to_move(self):
        self.exactly(condition_holds(game(), (dots("dddd "), 1, 0), ("stuck",)), False)
        self.exactly(condition_holds(game(moves=[]), (dots(" "), 1, 8), ("stuck",)), True)

    def test_all_games(self):
        draw = random.Random(8)
        told = []
        for rules in GAMES:
            arrows = [name for name, _ in rules.board.arrows]
            for position in some_positions(rules, draw):
                condition = random_condition(draw, rules.board.size, arrows, list(rules.kind_names))
                kept = Rules(rules.board, rules.kinds, rules.moves, [(condition, 0)], rules.last, 0, rules.start, 0,
                             rules.worths).ends[0][0]
                told.append(condition_holds(rules, position, kept))
                self.exactly(told[-1], own_holds(rules, position, kept))
        self.assertGreater(min(told.count(True), told.count(False)), 300)


class TestEnds(Case):
    def test_each_reason(self):
        ends = [(("holds", 4, "dot"), 1), (("stuck",), 2), (("holds", 4, "dot"), 3), (("gone", "ant"), 4)]
        for chosen, position, end, worth in (
                (ends, (dots("dddd "), 0, 3), ("end", 1), 2), (ends, (dots("ddddd"), 0, 0), ("end", 0), 1),
                (ends[2:], (dots("    d"), 0, 0), ("end", 0), 3), (ends[2:], (dots("     "), 0, 0), ("end", 1), 4),
                (ends[2:], (dots("a    "), 0, 0), ("none",), 5), (ends[2:], (dots("aaaa "), 0, 0), ("none",), 5),
                (ends[2:], (dots("aaaa "), 0, 1), ("still", 0), 6), (ends[2:], (dots("aaaa "), 1, 1), None, None),
                ((), (dots("     "), 0, 0), ("none",), 5), ((), (dots("     "), 0, 1), None, None),
                ((), (dots("dddd "), 0, 1), ("still", 0), 6), ((), (dots("dddd "), 0, 0), ("none",), 5),
                ((), (dots("dddd "), 1, 0), ("none",), 5)):
            self.exactly(end_of(game(chosen), position), end)
            self.exactly(end_worth(game(chosen), position), worth)
        for side, worth in ((0, 6), (1, 7)):
            self.exactly(end_of(game(moves=[]), (dots("     "), side, 4)), ("still", side))
            self.exactly(end_worth(game(moves=[]), (dots("     "), side, 4)), worth)

    def test_all_games(self):
        draw = random.Random(9)
        told = []
        for rules in GAMES:
            for position in some_positions(rules, draw):
                end = own_end(rules, position)
                told.append(end[0] if end else None)
                self.exactly(end_of(rules, position), end)
                self.exactly(end_worth(rules, position), own_worth(rules, position))
                moves = () if end else own_moves(rules, position)
                self.exactly(open_moves(rules, position), moves)
                self.exactly(next_positions(rules, position), tuple(own_behind(position, move) for move in moves))
        for word in ("end", "none", "still", None):
            self.assertGreater(told.count(word), 100)


class TestOpen(Case):
    def test_an_open_position(self):
        position = (dots("d a  "), 0, 2)
        self.exactly(open_moves(game(), position), (("place", "dot", 1), ("place", "dot", 3)))
        self.exactly(next_positions(game(), position), ((dots("dda  "), 1, 1), (dots("d ad "), 1, 1)))

    def test_a_position_that_is_over(self):
        for rules, position in ((game(), (dots("d a  "), 0, 0)), (game(), (dots("dddd "), 0, 3)),
                                (game([(("gone", "ant"), 0)]), (dots("d    "), 0, 3))):
            self.exactly(open_moves(rules, position), ())
            self.exactly(next_positions(rules, position), ())

    def test_next_positions_are_unlike_and_have_one_move_fewer(self):
        draw = random.Random(10)
        for rules in GAMES:
            for position in some_positions(rules, draw):
                behind = next_positions(rules, position)
                self.assertEqual(len(set(behind)), len(behind))
                self.assertTrue(all(left == position[2] - 1 for _, _, left in behind))
