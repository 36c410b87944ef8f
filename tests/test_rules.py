"""Rules [3.3] to [3.9]."""

import itertools

from cutworths.boards import Board
from cutworths.errors import BadNames, BadOrder, BadRow, BadRules
from cutworths.rules import Rules, exchanged_rules, led_cells, led_worths, renamed_rules
from tests.base import Case, NO_NAMES, NO_NUMBERS, NO_SEQUENCES
from tests.games import PARTS, changed, own_end, own_moves, own_worth, plain_parts, plain_rules, random_rules, reached

NESTED = ("all", (("all", (("all", (("stuck",),)),)),))
GAMES = [plain_rules()] + [random_rules(seed) for seed in range(60)]

NO_MOVES = NO_SEQUENCES + (
    (), [], ("pass",), ("pass", 2), ("pass", -1), ("pass", True), ("pass", False), ("pass", "0"), ("pass", 0, 0),
    ("pass", 0.0), ("pass", None), ("pass", (0,)), ("place", "dot"), ("place", "dot", ()), ("place", "dot", []),
    ("place", "dot", [0], 1), ("place", "cat", [0]), ("place", "", [0]), ("place", "dot", [4]), ("place", "dot", [-1]),
    ("place", "dot", [0, 4]), ("place", "dot", [True]), ("place", "dot", [0, "1"]), ("place", "dot", 0),
    ("place", "dot", "0"), ("place", "dot", {0}), ("place", "dot", range(2)), ("place", "dot", [[0]]),
    ("place", ["dot"], [0]), ("place", "dot", [0.0]), ("place", "dot", None), ("place", 0, [0]), ("step", "dot"),
    ("step", "cat", "go"), ("step", "dot", "dot"), ("step", "dot", "up"), ("step", "go", "dot"), ("step", "dot", None),
    ("step", "dot", ["go"]), ("step", None, "go"), ("step", "dot", "go", "go"), ("step", "dot", 0), ("take", "dot"),
    ("take", "cat", "go"), ("take", "dot", "ant"), ("take", "dot", {}), ("take", "dot", "go", 1), ("turn", "dot"),
    ("turn", "dot", "dot"), ("turn", "dot", "cat"), ("turn", "cat", "dot"), ("turn", "dot", "go"), ("turn", "dot", ""),
    ("turn", "dot", ["ant"]), ("turn", "dot", None), ("turn", "dot", "ant", "king"), ("turn", "", "dot"), ("go", "dot"),
    ("Pass", 0), ("pass ", 0), ("", 0), (None, 0), (0, 0), (["pass"], 0), ("stuck",), ("holds", 0, "dot"), "pass",
    (True, 0), ({}, 0))

NO_CONDITIONS = NO_SEQUENCES + (
    (), [], ("holds",), ("holds", 0), ("holds", 0, "dot", 1), ("holds", 4, "dot"), ("holds", -1, "dot"),
    ("holds", True, "dot"), ("holds", "0", "dot"), ("holds", None, "dot"), ("holds", 0.0, "dot"), ("holds", 0, "cat"),
    ("holds", 0, ""), ("holds", 0, None), ("holds", 0, ["dot"]), ("holds", "dot", 0), ("holds", [0], "dot"),
    ("row", "go", "dot"), ("row", "go", "dot", 0), ("row", "go", "dot", 5), ("row", "go", "dot", True),
    ("row", "go", "dot", "2"), ("row", "go", "dot", 2.0), ("row", "go", "dot", None), ("row", "go", "dot", 2, 2),
    ("row", "up", "dot", 2), ("row", "go", "cat", 2), ("row", "dot", "go", 2), ("row", ["go"], "dot", 2),
    ("row", "go", ["dot"], 2), ("row", None, "dot", 2), ("row", "go", "", 2), ("row", "", "dot", 2),
    ("row", "go", "dot", -1), ("gone",), ("gone", "cat"), ("gone", ""), ("gone", 0), ("gone", ["dot"]),
    ("gone", "dot", "ant"), ("gone", None), ("stuck", 0), ("stuck", ()), ("Stuck",), ("all",), ("all", None),
    ("all", "stuck"), ("all", ("stuck",)), ("all", [("stuck",)] * 5), ("all", [("stuck",), ("holds", 9, "dot")]),
    ("all", [], []), ("all", {}), ("all", [[]]), ("all", [NESTED]), ("all", [("stuck",), NESTED]), ("all", ["stuck"]),
    ("all", (("all", (("all", (("all", ()),)),)),)), ("pass", 0), (0,), (None,), (["stuck"],), ("",), "stuck", (True,))


class TestKept(Case):
    def test_attributes(self):
        rules = plain_rules()
        self.exactly(rules.kinds, (("dot", 0), ("ant", 1), ("king", 0)))
        self.exactly(rules.moves, (("pass", 1), ("place", "dot", (0, 3)), ("step", "dot", "go"), ("take", "ant", "back"),
                                   ("turn", "dot", "king")))
        self.exactly(rules.ends, (
            (("holds", 2, "dot"), 3), (("row", "go", "dot", 2), 1), (("gone", "ant"), 0), (("stuck",), 2),
            (("all", (("gone", "dot"), ("all", ()), ("all", (("all", (("stuck",),)),)))), 3)))
        self.exactly(rules.last, (0, 3, 1))
        self.exactly(rules.left, 3)
        self.exactly(rules.start, ("", "dot", "", "ant"))
        self.exactly(rules.side, 1)
        self.exactly(rules.worths, 4)
        self.assertEqual(rules.board, plain_parts()["board"])
        self.exactly(rules.kind_names, ("dot", "ant", "king"))

    def test_they_are_passed_in_the_order_of_the_interface(self):
        self.assertEqual(Rules(*[plain_parts()[name] for name in PARTS]), plain_rules())

    def test_what_is_passed_is_neither_kept_nor_changed(self):
        parts = plain_parts()
        rules = Rules(**parts)
        wanted = plain_parts()
        for name in PARTS[1:]:
            self.exactly(parts[name], wanted[name])
        parts["kinds"][1][0] = "x"
        parts["moves"][1][2].append(1)
        parts["moves"][3][1] = "dot"
        parts["ends"][1][0][3] = 4
        parts["ends"][4][0][1].clear()
        parts["last"][0] = 2
        parts["start"][0] = "ant"
        for name in PARTS[1:]:
            if isinstance(parts[name], list):
                parts[name].clear()
        self.assertEqual(rules, plain_rules())

    def test_as_few_and_as_many_as_there_may_be(self):
        least = plain_rules(kinds=[("a", 0)], moves=(), ends=[], left=0, start=[""] * 4, side=0, last=[0] * 3, worths=1)
        self.exactly((least.kinds, least.moves, least.ends), ((("a", 0),), (), ()))
        names = ["dot", "ant", "king", "d", "e", "abcdefgh"]
        most = plain_rules(kinds=[(name, 1) for name in names], moves=[("pass", 0)] * 8, ends=[(("stuck",), 15)] * 8,
                           left=8, last=[15] * 3, worths=16)
        self.exactly(most.kind_names, tuple(names))
        self.exactly((most.moves, most.ends, most.left), ((("pass", 0),) * 8, ((("stuck",), 15),) * 8, 8))
        self.exactly(plain_rules(ends=[(("all", [("stuck",)] * 4), 0), (NESTED, 1)]).ends,
                     ((("all", (("stuck",),) * 4), 0), (NESTED, 1)))
        self.exactly(plain_rules(moves=[("place", "dot", (3, 1, 2, 0, 1, 1, 3, 2, 0, 0))]).moves,
                     (("place", "dot", (0, 1, 2, 3)),))
        for length in (1, 2, 3, 4):
            self.exactly(plain_rules(ends=[(["row", "back", "king", length], 0)]).ends,
                         ((("row", "back", "king", length), 0),))

    def test_equal_exactly_if_all_attributes_are(self):
        rules = plain_rules()
        self.assertTrue(rules == plain_rules())
        self.assertFalse(rules != plain_rules())
        others = {"board": Board(4, list(rules.board.arrows[::-1])), "kinds": [("dot", 0), ("ant", 1), ("king", 1)],
                  "moves": rules.moves[:-1], "ends": rules.ends[1:], "last": (0, 3, 2), "left": 4,
                  "start": ("", "dot", "", "dot"), "side": 0, "worths": 5}
        self.assertEqual(set(others), set(PARTS))
        for name, other in others.items():
            self.assertFalse(rules == changed(rules, **{name: other}))
            self.assertTrue(rules != changed(rules, **{name: other}))
        for thing in (None, 0, "rules", tuple(plain_parts().values()), rules.board, object()):
            self.assertFalse(rules == thing)
            self.assertTrue(rules != thing)


class TestFaults(Case):
    def refuse(self, what, at, **changes):
        self.refused(BadRules, {"what": what, "at": at}, lambda parts: Rules(**parts), {**plain_parts(), **changes})

    def test_worths(self):
        for thing in NO_NUMBERS + (0, 17, -1, 4.0):
            self.refuse("worths", 0, worths=thing)

    def test_kinds(self):
        for thing in NO_SEQUENCES + ([], (), [(name, 0) for name in "abcdefg"], [5] * 7):
            self.refuse("kinds", 0, kinds=thing)

    def test_kind(self):
        things = NO_SEQUENCES + ((), ("a",), ("a", 0, 0), ("a", 2), ("a", -1), ("a", True), ("a", False), ("a", "0"),
                                 ("a", None), ("a", 1.0), ("ant", 0), ["dot", 1], (0, "a"), ("a", (0,)))
        for thing in things + tuple((name, 0) for name in NO_NAMES):
            self.refuse("kind", 2, kinds=[("dot", 0), ("ant", 1), thing])
            self.refuse("kind", 2, kinds=[["dot", 0], ["ant", 1], thing, ("dot", 0), 7])
        self.refuse("kind", 0, kinds=[("Dot", 0), ("ant", 1)])

    def test_moves(self):
        for thing in NO_SEQUENCES + ([("pass", 0)] * 9, [5] * 9):
            self.refuse("moves", 0, moves=thing)

    def test_move(self):
        for thing in NO_MOVES:
            self.refuse("move", 0, moves=[thing])
            self.refuse("move", 2, moves=(("pass", 0), ["step", "dot", "go"], thing, ("pass", 1), 5))
        for word in ("step", "take"):
            self.refuse("move", 0, moves=[(word, "dot", "go")], board=Board(4, [("back", [(0, 1)])]))

    def test_ends(self):
        for thing in NO_SEQUENCES + ([(("stuck",), 0)] * 9, [5] * 9):
            self.refuse("ends", 0, ends=thing)

    def test_end(self):
        things = NO_SEQUENCES + ((), (("stuck",),), (("stuck",), 0, 0), (("stuck",), 4), (("stuck",), -1),
                                 (("stuck",), True), (("stuck",), None), (("stuck",), "0"), (("stuck",), 1.0),
                                 (0, ("stuck",)))
        for thing in things + tuple((condition, 0) for condition in NO_CONDITIONS):
            self.refuse("end", 0, ends=[thing])
            self.refuse("end", 1, ends=[[["gone", "dot"], 3], thing, 5])
        self.refuse("end", 0, ends=[(("row", "go", "dot", 1), 0)], moves=[], board=Board(4, []))

    def test_an_endless_condition_is_refused(self):
        conditions = []
        conditions.append(("all", conditions))
        self.refuse("end", 0, ends=[(("all", conditions), 0)])

    def test_last(self):
        things = NO_SEQUENCES + ((), (0, 0), (0, 0, 0, 0), (0, 0, 4), (4, 0, 0), (0, -1, 0), (True, 0, 0), (0, 0, False),
                                 (0, "0", 0), (0, None, 0), (0.0, 0, 0), ((0,), 0, 0))
        for thing in things:
            self.refuse("last", 0, last=thing)

    def test_left(self):
        for thing in NO_NUMBERS + (-1, 9, 3.0):
            self.refuse("left", 0, left=thing)

    def test_start(self):
        things = NO_SEQUENCES + ((), ("",) * 3, ("",) * 5, ("", "", "", "cat"), ("", "", "", None), ("go", "", "", ""),
                                 ("", ".", "", ""), (0, "", "", ""), ("", ["dot"], "", ""), ("", "", " ", ""),
                                 ("", "", "", ()), ("", "", b"", ""), (False, "", "", ""))
        for thing in things:
            self.refuse("start", 0, start=thing)

    def test_side(self):
        for thing in NO_NUMBERS + (-1, 2, 0.0):
            self.refuse("side", 0, side=thing)

    def test_the_first_fault_is_told(self):
        faults = [("worths", 0, "worths", 0), ("kinds", 0, "kinds", []), ("kind", 1, "kinds", [("dot", 0), 5]),
                  ("moves", 0, "moves", 5), ("move", 1, "moves", [("pass", 0), 5, 6]), ("ends", 0, "ends", 5),
                  ("end", 1, "ends", [(("stuck",), 0), 5, 6]), ("last", 0, "last", 5), ("left", 0, "left", 9),
                  ("start", 0, "start", 5), ("side", 0, "side", 2)]
        for one, other in itertools.combinations(faults, 2):
            if one[2] != other[2]:
                self.refuse(one[0], one[1], **{one[2]: one[3], other[2]: other[3]})
        self.refuse("kind", 2, kinds=[("dot", 0), ("ant", 1), ("dot", 1), 5])
        self.refuse("move", 0, moves=[5] * 8, ends=5)
        self.refuse("end", 1, ends=[(("stuck",), 3), (("stuck",), 4), 5], last=(4, 4, 4))


class TestExchanged(Case):
    def test_the_plain_rules(self):
        rules = exchanged_rules(plain_rules())
        self.assertEqual(rules, plain_rules(
            kinds=[("dot", 1), ("ant", 0), ("king", 1)], last=[0, 1, 3], side=0,
            moves=[("pass", 0)] + plain_parts()["moves"][1:]))

    def test_twice_leads_back(self):
        for rules in GAMES:
            other = exchanged_rules(rules)
            self.assertEqual(exchanged_rules(other), rules)
            self.assertEqual(other.board, rules.board)
            self.exactly(other.kinds, tuple((name, 1 - side) for name, side in rules.kinds))
            self.exactly((other.ends, other.start, other.left, other.worths),
                         (rules.ends, rules.start, rules.left, rules.worths))
            self.exactly(other.moves, tuple(("pass", 1 - rule[1]) if rule[0] == "pass" else rule for rule in rules.moves))
            self.exactly(other.last, (rules.last[0], rules.last[2], rules.last[1]))
            self.exactly(other.side, 1 - rules.side)

    def test_the_other_side_plays_the_same(self):
        for rules in GAMES:
            other = exchanged_rules(rules)
            for cells, side, left in reached(rules, 30):
                self.assertEqual(own_moves(rules, (cells, side, left)), own_moves(other, (cells, 1 - side, left)))
                self.assertEqual(own_worth(rules, (cells, side, left)), own_worth(other, (cells, 1 - side, left)))


class TestLedCells(Case):
    def test_the_plain_rules(self):
        rules = led_cells(plain_rules(), [2, 0, 3, 1])
        self.assertEqual(rules, plain_rules(
            board=Board(4, [("go", [(2, 0), (0, 3), (3, 1)]), ("back", [(1, 2), (3, 0)])]),
            moves=[("pass", 1), ("place", "dot", [1, 2])] + plain_parts()["moves"][2:],
            ends=[(("holds", 3, "dot"), 3)] + plain_parts()["ends"][1:], start=["dot", "ant", "", ""]))

    def test_conditions_within(self):
        rules = plain_rules(ends=[(("all", [("all", [("holds", 0, "ant"), ("row", "go", "dot", 3)])]), 1)])
        self.exactly(led_cells(rules, (3, 2, 1, 0)).ends,
                     ((("all", (("all", (("holds", 3, "ant"), ("row", "go", "dot", 3))),)), 1),))

    def test_the_order_turned_round_leads_back(self):
        for seed, rules in enumerate(GAMES):
            orders = list(itertools.permutations(range(rules.board.size)))
            order = orders[seed * 7 % len(orders)]
            back = [order.index(cell) for cell in range(rules.board.size)]
            led = led_cells(rules, order)
            self.assertEqual(led_cells(led, back), rules)
            for cells, side, left in reached(rules, 20):
                new = tuple(cells[back[cell]] for cell in range(rules.board.size))
                self.assertEqual(own_end(led, (new, side, left)), own_end(rules, (cells, side, left)))
                self.assertEqual(len(own_moves(led, (new, side, left))), len(own_moves(rules, (cells, side, left))))

    def test_orders_that_do_not_fit(self):
        for thing in NO_SEQUENCES + ((), (0, 1, 2), (0, 1, 2, 3, 4), [5] * 3):
            self.refused(BadOrder, {"index": -1}, led_cells, plain_rules(), thing)
        for at in range(4):
            for thing in NO_NUMBERS + (-1, 4, 0.0, 3.0):
                order = [3, 2, 1, 0]
                order[at] = thing
                self.refused(BadOrder, {"index": at}, led_cells, plain_rules(), order)
        self.refused(BadOrder, {"index": 1}, led_cells, plain_rules(), (0, 0, 4, 1))
        self.refused(BadOrder, {"index": 3}, led_cells, plain_rules(), (3, 0, 2, 3))
        self.refused(BadOrder, {"index": 2}, led_cells, plain_rules(), (3, 0, True, 3))


class TestRenamed(Case):
    def test_the_plain_rules(self):
        rules = renamed_rules(plain_rules(), ["ant", "dot", "z"], ("back", "up"))
        self.assertEqual(rules, Rules(
            Board(4, [("back", [(0, 1), (1, 2), (2, 3)]), ("up", [(3, 0), (2, 1)])]),
            [("ant", 0), ("dot", 1), ("z", 0)],
            [("pass", 1), ("place", "ant", [0, 3]), ("step", "ant", "back"), ("take", "dot", "up"), ("turn", "ant", "z")],
            [(("holds", 2, "ant"), 3), (("row", "back", "ant", 2), 1), (("gone", "dot"), 0), (("stuck",), 2),
             (("all", [("gone", "ant"), ("all", ()), ("all", [("all", [("stuck",)])])]), 3)],
            [0, 3, 1], 3, ["", "ant", "", "dot"], 1, 4))

    def test_the_old_names_lead_back(self):
        for rules in GAMES:
            kinds = list(rules.kind_names)
            arrows = [name for name, _ in rules.board.arrows]
            new_kinds, new_arrows = kinds[1:] + kinds[:1], [name + "x" for name in arrows]
            other = renamed_rules(rules, new_kinds, new_arrows)
            self.exactly(other.kind_names, tuple(new_kinds))
            self.exactly([name for name, _ in other.board.arrows], new_arrows)
            self.assertEqual(renamed_rules(other, kinds, arrows), rules)
            names = dict(zip(kinds, new_kinds), **{"": ""})
            for cells, side, left in reached(rules, 20):
                new = tuple(names[content] for content in cells)
                self.assertEqual(own_end(other, (new, side, left)), own_end(rules, (cells, side, left)))

    def test_names_that_do_not_fit(self):
        rules = plain_rules()
        for thing in NO_SEQUENCES + ((), ("a", "b"), ("a", "b", "c", "d"), ("a", "b", "a"), ["b", "b", "c"]):
            self.refused(BadNames, {"what": "kinds"}, renamed_rules, rules, thing, ("a", "b"))
            self.refused(BadNames, {"what": "kinds"}, renamed_rules, rules, thing, 5)
        for thing in NO_SEQUENCES + ((), ("a",), ("a", "b", "c"), ("a", "a")):
            self.refused(BadNames, {"what": "arrows"}, renamed_rules, rules, ("a", "b", "c"), thing)
        for name in NO_NAMES:
            self.refused(BadNames, {"what": "kinds"}, renamed_rules, rules, ("a", name, "c"), ("a", "b"))
            self.refused(BadNames, {"what": "arrows"}, renamed_rules, rules, ("a", "b", "c"), ["a", name])

    def test_what_is_passed_is_not_changed(self):
        kinds, arrows = ["x", "y", "z"], ["p", "q"]
        renamed_rules(plain_rules(), kinds, arrows)
        self.assertEqual((kinds, arrows), (["x", "y", "z"], ["p", "q"]))


class TestLedWorths(Case):
    def test_the_plain_rules(self):
        rules = led_worths(plain_rules(), [6, 0, 5, 5], 7)
        self.exactly([worth for _, worth in rules.ends], [5, 0, 6, 5, 5])
        self.exactly(rules.last, (6, 5, 0))
        self.exactly(rules.worths, 7)
        self.assertEqual(changed(rules, ends=plain_rules().ends, last=(0, 3, 1), worths=4), plain_rules())

    def test_all_games(self):
        for rules in GAMES:
            row = [(worth * 5 + 3) % 16 for worth in range(rules.worths)]
            led = led_worths(rules, tuple(row), 16)
            self.exactly(led.ends, tuple((condition, row[worth]) for condition, worth in rules.ends))
            self.exactly(led.last, tuple(row[worth] for worth in rules.last))
            self.exactly(led.worths, 16)
            for name in PARTS:
                if name not in ("ends", "last", "worths"):
                    self.assertEqual(getattr(led, name), getattr(rules, name))

    def test_as_few_and_as_many_as_there_may_be(self):
        self.exactly(led_worths(plain_rules(), (0, 0, 0, 0), 1).worths, 1)
        self.exactly(led_worths(plain_rules(), (15, 0, 15, 0), 16).worths, 16)

    def test_what_does_not_fit(self):
        rules = plain_rules()
        for thing in NO_SEQUENCES + ((), (0, 1, 2), (0, 1, 2, 3, 3), (0, 1, 2, 5), (-1, 0, 0, 0), (0, True, 0, 0),
                                     (0, 0, "1", 0), (0, 0, 0, 1.0), (None, 0, 0, 0)):
            self.refused(BadRow, {}, led_worths, rules, thing, 5)
        for thing in NO_NUMBERS + (0, 17, -1, 4.0):
            self.refused(BadRow, {}, led_worths, rules, (0, 0, 0, 0), thing)
        self.refused(BadRow, {}, led_worths, rules, (0, 1, 2, 3), 3)
