"""Edits of rules [3.13], with the faults of [3.7]."""

import itertools
import random

from cutworths.errors import BadEdit, BadRules
from cutworths.edits import edited_rules, undo_edit
from tests.base import Case, NO_NUMBERS, NO_SEQUENCES
from tests.games import PARTS, changed, plain_parts, plain_rules, random_condition, random_move, random_rules
from tests.test_rules import NO_CONDITIONS, NO_MOVES

MOVE = ["turn", "king", "ant"]
END = [["all", [["stuck"]]], 2]
EDITS = [("put move", 0, MOVE), ("drop move", 1), ("put end", 2, END), ("drop end", 0), ("left", 7), ("last", 1, 0),
         ("side", 0), ("cell", 0, "king")]
NO_EDITS = NO_SEQUENCES + (
    (), [], ("put move",), ("put move", 0), ("put move", 0, MOVE, 1), ("put", "move", 0, MOVE), ("put end", 0),
    ("put end", 0, END, 0), ("put end", 0, *END), ("drop move",), ("drop move", 0, MOVE), ("drop end",),
    ("drop end", 0, 0), ("left",), ("left", 1, 2), ("last", 1), ("last", 1, 2, 3), ("side",), ("side", 0, 1), ("cell", 0),
    ("cell", 0, "", ""), ("drop",), ("drop", 0), ("put", 0, MOVE), ("Left", 1), ("left ", 1), ("", 1), (None, 1), (0, 1),
    (["left"], 1), ("worths", 3), (b"left", 1), "side", ("kinds", 0), (("left", 1),))


def expected(rules, edit):
    """The rules behind an edit that fits, by changing their lists."""
    moves, ends, last, start = (list(part) for part in (rules.moves, rules.ends, rules.last, rules.start))
    if edit[0] == "put move":
        moves.insert(edit[1], edit[2])
    if edit[0] == "drop move":
        moves.pop(edit[1])
    if edit[0] == "put end":
        ends.insert(edit[1], edit[2])
    if edit[0] == "drop end":
        ends.pop(edit[1])
    if edit[0] == "last":
        last[edit[1]] = edit[2]
    if edit[0] == "cell":
        start[edit[1]] = edit[2]
    return changed(rules, moves=moves, ends=ends, last=last, start=start,
                   left=edit[1] if edit[0] == "left" else rules.left,
                   side=edit[1] if edit[0] == "side" else rules.side)


def some_edits(draw, rules):
    """Edits of every form that fit the rules."""
    names, arrows = list(rules.kind_names), [name for name, _ in rules.board.arrows]
    cells = rules.board.size
    edits = [("left", draw.randrange(9)), ("last", draw.randrange(3), draw.randrange(rules.worths)),
             ("side", draw.randrange(2)), ["cell", draw.randrange(cells), draw.choice([""] + names)]]
    if len(rules.moves) < 8:
        edits.append(("put move", draw.randint(0, len(rules.moves)), random_move(draw, cells, arrows, names)))
    if len(rules.ends) < 8:
        end = (random_condition(draw, cells, arrows, names), draw.randrange(rules.worths))
        edits.append(["put end", draw.randint(0, len(rules.ends)), end])
    if rules.moves:
        edits.append(("drop move", draw.randrange(len(rules.moves))))
    if rules.ends:
        edits.append(("drop end", draw.randrange(len(rules.ends))))
    return edits


class TestEdited(Case):
    def test_each_form(self):
        moves, ends = plain_parts()["moves"], plain_parts()["ends"]
        for edit, changes in (
                (("put move", 0, MOVE), {"moves": [MOVE] + moves}), (("put move", 5, MOVE), {"moves": moves + [MOVE]}),
                (("put move", 2, MOVE), {"moves": moves[:2] + [MOVE] + moves[2:]}),
                (("drop move", 0), {"moves": moves[1:]}), (["drop move", 4], {"moves": moves[:4]}),
                (("put end", 0, END), {"ends": [END] + ends}), (["put end", 5, END], {"ends": ends + [END]}),
                (("put end", 3, END), {"ends": ends[:3] + [END] + ends[3:]}),
                (("drop end", 0), {"ends": ends[1:]}), (("drop end", 4), {"ends": ends[:4]}),
                (("left", 0), {"left": 0}), (("left", 8), {"left": 8}), (("last", 0, 2), {"last": (2, 3, 1)}),
                (("last", 1, 2), {"last": (0, 2, 1)}), (["last", 2, 2], {"last": (0, 3, 2)}), (("side", 0), {"side": 0}),
                (("cell", 0, "king"), {"start": ("king", "dot", "", "ant")}),
                (("cell", 3, ""), {"start": ("", "dot", "", "")})):
            self.assertEqual(edited_rules(plain_rules(), edit), plain_rules(**changes))

    def test_edits_and_back(self):
        draw = random.Random(3)
        for seed in range(80):
            rules = random_rules(seed)
            for edit in some_edits(draw, rules):
                behind = edited_rules(rules, edit)
                self.assertEqual(behind, expected(rules, edit))
                self.assertEqual(edited_rules(behind, undo_edit(rules, edit)), rules)
                self.assertIs(type(undo_edit(rules, edit)), tuple)

    def test_nothing_is_changed(self):
        for edit in EDITS:
            rules, before = plain_rules(), repr(edit)
            edited_rules(rules, edit)
            undo_edit(rules, edit)
            self.assertEqual(rules, plain_rules())
            self.assertEqual(repr(edit), before)

    def test_what_is_no_edit(self):
        for call in (edited_rules, undo_edit):
            for thing in NO_EDITS:
                self.refused(BadEdit, {"what": "edit"}, call, plain_rules(), thing)

    def test_places(self):
        for call in (edited_rules, undo_edit):
            for word, least, most, rest in (("put move", 0, 5, (MOVE,)), ("drop move", 0, 4, ()), ("put end", 0, 5, (END,)),
                                            ("drop end", 0, 4, ()), ("last", 0, 2, (1,)), ("cell", 0, 3, ("dot",))):
                for at in range(least, most + 1):
                    call(plain_rules(), (word, at, *rest))
                for at in NO_NUMBERS + (least - 1, most + 1, 99, float(least)):
                    self.refused(BadEdit, {"what": "at"}, call, plain_rules(), (word, at, *rest))
                    self.refused(BadEdit, {"what": "at"}, call, plain_rules(), (word, at, *[object()] * len(rest)))
            bare = plain_rules(moves=[], ends=[])
            self.refused(BadEdit, {"what": "at"}, call, bare, ("drop move", 0))
            self.refused(BadEdit, {"what": "at"}, call, bare, ("drop end", 0))
            call(bare, ("put move", 0, MOVE))
            self.refused(BadEdit, {"what": "at"}, call, bare, ("put end", 1, END))

    def test_edited_rules_that_do_not_fit(self):
        for call in (edited_rules, undo_edit):
            for thing in NO_MOVES:
                self.refused(BadRules, {"what": "move", "at": 2}, call, plain_rules(), ("put move", 2, thing))
            for thing in NO_CONDITIONS:
                self.refused(BadRules, {"what": "end", "at": 5}, call, plain_rules(), ("put end", 5, (thing, 0)))
            for thing in (5, None, (), (("stuck",),), (("stuck",), 4), (("stuck",), True)):
                self.refused(BadRules, {"what": "end", "at": 0}, call, plain_rules(), ("put end", 0, thing))
            full = plain_rules(moves=[("pass", 0)] * 8, ends=[(("stuck",), 0)] * 8)
            for thing in (MOVE, 5):
                self.refused(BadRules, {"what": "moves", "at": 0}, call, full, ("put move", 8, thing))
            for thing in (END, 5):
                self.refused(BadRules, {"what": "ends", "at": 0}, call, full, ("put end", 0, thing))
            for thing in NO_NUMBERS + (-1, 9):
                self.refused(BadRules, {"what": "left", "at": 0}, call, plain_rules(), ("left", thing))
            for thing in NO_NUMBERS + (-1, 2):
                self.refused(BadRules, {"what": "side", "at": 0}, call, plain_rules(), ("side", thing))
            for thing in NO_NUMBERS + (-1, 4):
                self.refused(BadRules, {"what": "last", "at": 0}, call, plain_rules(), ("last", 2, thing))
            for thing in ("cat", ".", None, 0, ["dot"], ()):
                self.refused(BadRules, {"what": "start", "at": 0}, call, plain_rules(), ("cell", 1, thing))


class TestUndo(Case):
    def test_each_form(self):
        rules = plain_rules()
        for edit, wanted in (
                (("put move", 1, MOVE), ("drop move", 1)), (["put end", 5, END], ("drop end", 5)),
                (("drop move", 1), ("put move", 1, ("place", "dot", (0, 3)))),
                (["drop end", 3], ("put end", 3, (("stuck",), 2))), (("left", 8), ("left", 3)),
                (["last", 1, 0], ("last", 1, 3)), (("last", 2, 0), ("last", 2, 1)), (("side", 0), ("side", 1)),
                (["cell", 0, "king"], ("cell", 0, "")), (("cell", 3, ""), ("cell", 3, "ant"))):
            self.exactly(undo_edit(rules, edit), wanted)

    def test_only_what_is_edited_changes(self):
        rules = plain_rules()
        touched = {"put move": "moves", "drop move": "moves", "put end": "ends", "drop end": "ends", "cell": "start"}
        for edit, name in itertools.product(EDITS, PARTS):
            if name != touched.get(edit[0], edit[0]):
                self.assertEqual(getattr(edited_rules(rules, edit), name), getattr(rules, name))
