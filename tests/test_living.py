"""What can come up in a play [3.10] to [3.12]."""

import random

from cutworths.boards import Board
from cutworths.errors import BadCondition
from cutworths.living import idle_moves, living_kinds, sure_of, trimmed_rules
from cutworths.rules import Rules
from tests.base import Case
from tests.games import (PARTS, own_end, own_holds, own_moves, own_moves_by, own_worth, plain_rules, random_condition,
                         random_rules, reached)
from tests.test_rules import NO_CONDITIONS

GAMES = [random_rules(seed) for seed in range(300)]


def rules_with(moves, start, ends=(), arrows=(("go", [(0, 1), (1, 2)]), ("void", []), ("turn", [(0, 1), (1, 0)]))):
    return Rules(Board(3, arrows), [("dot", 0), ("ant", 1), ("king", 0), ("bee", 1)], moves, ends, (0, 1, 2), 4, start, 0,
                 3)


def own_living(rules):
    """The living kinds, straight from [3.10]."""
    living = {content for content in rules.start if content} | {rule[1] for rule in rules.moves if rule[0] == "place"}
    while True:
        more = {rule[2] for rule in rules.moves if rule[0] == "turn" and rule[1] in living} - living
        if not more:
            return tuple(sorted(living))
        living |= more


def own_idle(rules):
    """The idle move rules, straight from [3.10]."""
    living, sides, arrows = own_living(rules), dict(rules.kinds), dict(rules.board.arrows)
    idle = []
    for at, rule in enumerate(rules.moves):
        word = rule[0]
        if ((word in ("step", "take", "turn") and rule[1] not in living)
                or (word in ("step", "take") and not arrows[rule[2]])
                or (word == "take" and not any(sides[kind] != sides[rule[1]] for kind in living))):
            idle.append(at)
    return tuple(idle)


def own_sure(rules, condition):
    """What is sure of a condition, by the lines of [3.11]."""
    living, word = own_living(rules), condition[0]
    if word == "holds":
        return None if condition[2] in living else "never"
    if word == "gone":
        return None if condition[1] in living else "always"
    if word == "row":
        cells = range(rules.board.size)
        chains = [(cell,) for cell in cells]
        for _ in range(condition[3] - 1):
            chains = [chain + (end,) for chain in chains for start, end in dict(rules.board.arrows)[condition[1]]
                      if start == chain[-1] and end not in chain]
        return None if chains and condition[2] in living else "never"
    if word == "stuck":
        if len(own_idle(rules)) == len(rules.moves):
            return "always"
        return "never" if {("pass", 0), ("pass", 1)} <= set(rules.moves) else None
    parts = [own_sure(rules, inner) for inner in condition[1]]
    if "never" in parts:
        return "never"
    return "always" if all(part == "always" for part in parts) else None


class TestLiving(Case):
    def test_kinds_at_the_start_and_placed(self):
        self.exactly(living_kinds(rules_with([], ["", "", ""])), ())
        self.exactly(living_kinds(rules_with([], ["king", "", "ant"])), ("ant", "king"))
        self.exactly(living_kinds(rules_with([("place", "king", [0])], ["", "", "dot"])), ("dot", "king"))
        self.exactly(living_kinds(rules_with([("step", "king", "go"), ("take", "bee", "go"), ("pass", 0)],
                                             ["", "", "dot"])), ("dot",))

    def test_turns_lead_on_in_any_order(self):
        turns = [("turn", "dot", "ant"), ("turn", "ant", "bee"), ("turn", "bee", "king")]
        for moves in (turns, turns[::-1], turns[1:] + turns[:1]):
            self.exactly(living_kinds(rules_with(moves, ["dot", "", ""])), ("ant", "bee", "dot", "king"))
            self.exactly(living_kinds(rules_with(moves, ["bee", "", ""])), ("bee", "king"))
            self.exactly(living_kinds(rules_with(moves, ["", "", ""])), ())
            self.exactly(living_kinds(rules_with(moves + [("place", "ant", [1])], ["", "", ""])), ("ant", "bee", "king"))

    def test_all_games(self):
        for rules in GAMES:
            self.exactly(living_kinds(rules), own_living(rules))

    def test_no_other_kind_is_reached(self):
        for rules in GAMES[:120]:
            living = living_kinds(rules)
            for cells, _, _ in reached(rules, 60, through_ends=True):
                self.assertTrue(all(content == "" or content in living for content in cells))


class TestIdle(Case):
    def test_each_reason(self):
        moves = [("pass", 0), ("place", "dot", [0]), ("step", "dot", "go"), ("step", "king", "go"),
                 ("step", "dot", "void"), ("take", "dot", "go"), ("turn", "king", "bee"), ("turn", "dot", "ant")]
        self.exactly(idle_moves(rules_with(moves[:7], ["", "", ""])), (3, 4, 5, 6))
        self.exactly(idle_moves(rules_with(moves, ["", "", ""])), (3, 4, 6))
        self.exactly(idle_moves(rules_with(moves[:7], ["king", "", ""])), (4,))
        self.exactly(idle_moves(rules_with(moves[:6], ["", "", "king"])), (4, 5))
        self.exactly(idle_moves(rules_with([("take", "ant", "go"), ("take", "dot", "go"), ("take", "dot", "void")],
                                           ["ant", "", ""])), (0, 1, 2))
        self.exactly(idle_moves(rules_with([("take", "ant", "go"), ("take", "dot", "go"), ("take", "dot", "void")],
                                           ["ant", "dot", ""])), (2,))
        self.exactly(idle_moves(rules_with([("take", "ant", "go")], ["ant", "bee", ""])), (0,))
        self.exactly(idle_moves(rules_with([("take", "dot", "go")], ["king", "dot", ""])), (0,))
        self.exactly(idle_moves(rules_with([], ["king", "dot", ""])), ())

    def test_all_games(self):
        for rules in GAMES:
            self.exactly(idle_moves(rules), own_idle(rules))

    def test_idle_rules_give_no_move(self):
        for rules in GAMES[:120]:
            idle = idle_moves(rules)
            for cells, _, _ in reached(rules, 60, through_ends=True):
                for at in idle:
                    self.assertEqual(own_moves_by(rules, cells, rules.moves[at]), [])


class TestSure(Case):
    def test_each_line(self):
        rules = rules_with([("pass", 0), ("place", "dot", [0]), ("step", "king", "go")], ["", "", "ant"])
        for condition, wanted in (
                (("holds", 0, "king"), "never"), (("holds", 0, "dot"), None), (("holds", 2, "ant"), None),
                (("row", "go", "bee", 1), "never"), (("row", "go", "dot", 3), None), (("row", "go", "dot", 4), "never"),
                (("row", "void", "dot", 1), None), (("row", "void", "dot", 2), "never"), (("row", "turn", "dot", 2), None),
                (("row", "turn", "dot", 3), "never"), (("gone", "bee"), "always"), (("gone", "dot"), None),
                (("stuck",), None), (("all", ()), "always"), (("all", [("gone", "bee"), ("gone", "king")]), "always"),
                (("all", [("gone", "bee"), ("gone", "dot")]), None), (("all", [("stuck",), ("holds", 0, "bee")]), "never"),
                (("all", [("holds", 0, "bee"), ("gone", "bee")]), "never"), (["all", [["stuck"]]], None),
                (("all", [("all", [("all", [("gone", "king")])]), ("gone", "bee")]), "always"),
                (["holds", 1, "king"], "never")):
            self.exactly(sure_of(rules, condition), wanted)

    def test_stuck(self):
        for moves, wanted in (
                ([], "always"), ([("step", "king", "go"), ("take", "dot", "go")], "always"), ([("pass", 0)], None),
                ([("pass", 0), ("pass", 1)], "never"), ([("pass", 1), ("step", "king", "go"), ("pass", 0)], "never"),
                ([("pass", 0), ("pass", 0)], None), ([("pass", 1), ("pass", 1)], None), ([("place", "dot", [0])], None),
                ([("step", "dot", "void")], "always"), ([("step", "dot", "go")], None)):
            self.exactly(sure_of(rules_with(moves, ["dot", "", ""]), ("stuck",)), wanted)

    def test_all_games(self):
        draw = random.Random(5)
        told = []
        for rules in GAMES:
            for _ in range(8):
                arrows = [name for name, _ in rules.board.arrows]
                condition = random_condition(draw, rules.board.size, arrows, list(rules.kind_names))
                told.append(sure_of(rules, condition))
                self.exactly(told[-1], own_sure(rules, condition))
        for word in ("always", "never", None):
            self.assertGreater(told.count(word), 100)

    def test_what_is_sure_is_so_wherever_a_play_leads(self):
        draw = random.Random(6)
        for rules in GAMES[:80]:
            positions = reached(rules, 40, through_ends=True)
            for _ in range(6):
                arrows = [name for name, _ in rules.board.arrows]
                condition = random_condition(draw, rules.board.size, arrows, list(rules.kind_names))
                sure = sure_of(rules, condition)
                if sure is not None:
                    for position in positions:
                        self.assertEqual(own_holds(rules, position, condition), sure == "always")

    def test_what_is_no_condition(self):
        for thing in NO_CONDITIONS:
            self.refused(BadCondition, {}, sure_of, plain_rules(), thing)


class TestTrimmed(Case):
    def test_what_is_left_out(self):
        ends = [(("holds", 0, "bee"), 0), (("gone", "ant"), 1), (("all", [("stuck",), ("row", "go", "king", 2)]), 2),
                (("gone", "bee"), 2), (("gone", "dot"), 0), (("gone", "king"), 0)]
        moves = [("step", "king", "go"), ("pass", 0), ("step", "dot", "void"), ("place", "dot", [1, 0]),
                 ("take", "ant", "go")]
        rules = rules_with(moves, ["", "", "ant"], ends)
        self.assertEqual(trimmed_rules(rules), rules_with([moves[1], moves[3], moves[4]], ["", "", "ant"],
                                                          [ends[1], ends[3]]))
        self.assertEqual(trimmed_rules(rules_with(moves, ["", "", "ant"], ends[:3])),
                         rules_with([moves[1], moves[3], moves[4]], ["", "", "ant"], [ends[1]]))
        self.exactly(len(rules.moves), 5)

    def test_all_games(self):
        for rules in GAMES:
            idle, ends = own_idle(rules), []
            for condition, worth in rules.ends:
                if own_sure(rules, condition) != "never":
                    ends.append((condition, worth))
                if own_sure(rules, condition) == "always":
                    break
            trimmed = trimmed_rules(rules)
            self.exactly(trimmed.moves, tuple(rule for at, rule in enumerate(rules.moves) if at not in idle))
            self.exactly(trimmed.ends, tuple(ends))
            for name in PARTS:
                if name not in ("moves", "ends"):
                    self.assertEqual(getattr(trimmed, name), getattr(rules, name))
            self.assertEqual(trimmed_rules(trimmed), trimmed)

    def test_plays_are_the_same(self):
        for rules in GAMES[:120]:
            trimmed = trimmed_rules(rules)
            for position in reached(rules, 60):
                self.assertEqual(own_moves(rules, position), own_moves(trimmed, position))
                self.assertEqual(own_worth(rules, position), own_worth(trimmed, position))
                self.assertEqual(own_end(rules, position) is None, own_end(trimmed, position) is None)
