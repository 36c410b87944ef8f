"""Deeds [16.1]."""

import random

from cutworths.deeds import check_deed
from cutworths.errors import BadDeed
from tests.base import NO_NUMBERS, NO_SEQUENCES, Case
from tests.growing import as_lists

RIGHT = (("move", 0), ("move", 10 ** 20), ("back",), ("worth",), ("ask", 1), ("ask", 400), ("cut",), ("go on",),
         ("hands", 0, 1, ()), ("hands", 8, 4, (0, 10 ** 30)), ("hands", 3, 2, (7,) * 60), ("forget", 0), ("forget", 99),
         ("prime", 0), ("prime", 400), ("certificate", "floor"), ("certificate", "ceiling"), ("rule", ()),
         ("rule", ("left", 3)), ("rule", ("put end", 0, (("all", (("stuck",), ("all", ()))), 2))), ("rule", ("x", None, "ab")))
MANY = {"move": 2, "back": 1, "worth": 1, "ask": 2, "cut": 1, "go on": 1, "hands": 4, "forget": 2, "prime": 2,
        "certificate": 2, "rule": 2}


class TestDeeds(Case):
    def test_right_ones(self):
        for deed in RIGHT:
            self.exactly(check_deed(deed), deed)
            self.exactly(check_deed(as_lists(deed)), deed)
            self.exactly(check_deed(list(deed)), deed)

    def test_all_sequences_become_tuples(self):
        edit = ["put end", 1, [["all", [["holds", 0, "dot"], ["all", [[]]]]], 3]]
        wanted = ("put end", 1, (("all", (("holds", 0, "dot"), ("all", ((),)))), 3))
        self.exactly(check_deed(["rule", edit]), ("rule", wanted))
        found = check_deed(("hands", 1, 2, [3, 4]))
        self.exactly(found, ("hands", 1, 2, (3, 4)))
        given = ["rule", edit]
        before = repr(given)
        found = check_deed(given)
        self.exactly(repr(given), before)
        edit[2][0][1].clear()
        self.exactly(found, ("rule", wanted))
        deep = "dot"
        for _ in range(10):
            deep = [deep]
        self.exactly(repr(check_deed(("rule", deep))).count("("), 11)

    def bad(self, what, thing):
        self.refused(BadDeed, {"what": what}, check_deed, thing)

    def test_no_deeds(self):
        for thing in NO_SEQUENCES + ((), [], ("Move", 0), ("go", "on"), ("",), (None,), (0,), (True,), (("move", 0),), (["move"],),
                                     ({"move": 0},), (b"move", 0), ("moves", 0), ("go on ",), ("back ",), ({"move"}, 0)):
            self.bad("deed", thing)
        for word in MANY:
            self.bad("deed", word)
            self.bad("deed", {word: 1})

    def test_other_numbers_of_items(self):
        for word, many in MANY.items():
            for other in range(1, 7):
                if other != many:
                    self.bad("many", (word,) + (0,) * (other - 1))
                    self.bad("many", [word] + [None] * (other - 1))

    def test_fields(self):
        for word in ("move", "forget", "prime"):
            for thing in (-1, -10 ** 20) + NO_NUMBERS:
                self.bad("field", (word, thing))
        for thing in (0, 401, -1, 10 ** 20) + NO_NUMBERS:
            self.bad("field", ("ask", thing))
        for thing in (-1, 9, 10 ** 20) + NO_NUMBERS:
            self.bad("field", ("hands", thing, 1, ()))
        for thing in (-1, 0, 5, 10 ** 20) + NO_NUMBERS:
            self.bad("field", ["hands", 0, thing, []])
        for thing in NO_SEQUENCES + ((0,) * 61, [0] * 61, (-1,), (0, -1), ((),), ([0],)) + tuple(
                (0, other) for other in NO_NUMBERS):
            self.bad("field", ("hands", 0, 1, thing))
        for thing in (None, "", "floors", "Floor", 0, True, b"floor", ("floor",), ["ceiling"], {"floor": 0}):
            self.bad("field", ("certificate", thing))
        for thing in NO_SEQUENCES:
            self.bad("field", ("rule", thing))

    def test_bent_deeds(self):
        draw = random.Random(1)
        fields = {"move": self.natural, "forget": self.natural, "prime": self.natural,
                  "ask": lambda thing: self.natural(thing) and 1 <= thing <= 400,
                  "certificate": lambda thing: isinstance(thing, str) and thing in ("floor", "ceiling"),
                  "rule": lambda thing: isinstance(thing, (list, tuple))}
        things = (0, 1, 5, 400, 401, -1, True, None, "floor", "ceiling", (), [], (0,), [1, 2], ("left", 1), "move", 2.0)
        for _ in range(3000):
            deed = [draw.choice(list(MANY))] + [draw.choice(things) for _ in range(draw.choice((0, 1, 1, 1, 2, 3)))]
            word, rest = deed[0], deed[1:]
            if len(deed) != MANY[word]:
                self.bad("many", deed)
                continue
            if word == "hands":
                right = (self.natural(rest[0]) and rest[0] <= 8 and self.natural(rest[1]) and 1 <= rest[1] <= 4
                         and isinstance(rest[2], (list, tuple)) and all(self.natural(pick) for pick in rest[2]))
            else:
                right = all(fields[word](thing) for thing in rest)
            if right:
                self.exactly(check_deed(deed), tuple(tuple(item) if isinstance(item, list) else item for item in deed))
            else:
                self.bad("field", deed)

    def natural(self, thing):
        return isinstance(thing, int) and not isinstance(thing, bool) and thing >= 0
