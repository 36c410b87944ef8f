"""Stories: deeds and desks as texts [16.12], [16.13]."""

import random
import re

from cutworths.desk import Desk
from cutworths.deeds import check_deed
from cutworths.errors import BadDeed, BadEdit, BadStory, WorthError
from cutworths.frametext import state_text
from cutworths.making import set_lattice
from cutworths.ruletext import print_edit, read_edit
from cutworths.stories import print_deeds, put_away, read_deeds, taken_up
from tests.base import Case
from tests.games import plain_rules
from tests.growing import DISTRIBUTIVE, LATTICES
from tests.test_desk import GAMES, as_tuples, random_deed, random_edit, state_of

EDITS = (("left", 3), ("side", 0), ("last", 2, 15), ("cell", 8, ""), ("cell", 0, "dot"), ("drop move", 7), ("drop end", 0),
         ("put move", 0, ("pass", 1)), ("put move", 3, ("place", "dot", (2, 0, 2))), ("put move", 1, ("turn", "dot", "ant")),
         ("put move", 99, ("step", "dot", "go")), ("put end", 4, (("row", "go", "dot", 3), 2)),
         ("put end", 0, (("all", ()), 0)), ("put end", 0, (("all", (("stuck",), ("all", (("gone", "ant"),)))), 99)))
STORY = (("move", 0), ("back",), ("worth",), ("ask", 400), ("cut",), ("go on",), ("hands", 8, 4, (0, 12, 999999999)),
         ("hands", 0, 1, ()), ("forget", 63), ("prime", 15), ("certificate", "floor"), ("certificate", "ceiling"))
TEXT = """move 0
back
worth
ask 400
cut
go on
hands 8 4 0 12 999999999
hands 0 1
forget 63
prime 15
certificate floor
certificate ceiling"""
NUMBER = "(?:0|[1-9][0-9]*)"


def own_fault(text):
    """The first row that is not spelled as a deed, straight from [16.12], edits by their own texts."""
    if not isinstance(text, str):
        return -1
    for number, row in enumerate(text.split("\n") if text else []):
        if not spelled(row):
            return number
    return None


def spelled(row):
    form = f"(?:(?:move|forget|prime) {NUMBER}|back|worth|cut|go on|certificate (?:floor|ceiling))"
    if re.fullmatch(form, row, re.ASCII):
        return True
    found = re.fullmatch(f"ask ({NUMBER})", row, re.ASCII)
    if found:
        return 1 <= int(found[1]) <= 400
    found = re.fullmatch(f"hands ([0-8]) ([1-4])((?: {NUMBER})*)", row, re.ASCII)
    if found:
        return found[3].count(" ") <= 60
    if row.startswith("rule "):
        try:
            return print_edit(read_edit(row[5:])) == row[5:]
        except WorthError:
            return False
    return False


class TestDeeds(Case):
    def test_examples(self):
        self.exactly(print_deeds(STORY), TEXT)
        self.exactly(print_deeds(list(STORY)), TEXT)
        self.exactly(read_deeds(TEXT), STORY)
        for empty in ((), []):
            self.exactly(print_deeds(empty), "")
        self.exactly(read_deeds(""), ())

    def test_edits(self):
        for edit in EDITS:
            text = print_deeds((("rule", edit),))
            self.exactly(text, "rule " + print_edit(edit))
            self.exactly(read_deeds(text), (("rule", edit),))
        deeds = [("rule", edit) for edit in EDITS] + [("go on",)]
        self.exactly(read_deeds(print_deeds(deeds)), tuple(deeds))
        self.exactly(print_deeds([["rule", ["put move", 0, ["place", "dot", [2, 1]]]], ["hands", 1, 1, [3]]]),
                     "rule put move 0 place dot 2 1\nhands 1 1 3")
        self.exactly(print_deeds([("rule", ("put end", 1, (("all", (("stuck",), ("gone", "ant"))), 3)))]),
                     "rule put end 1 3 if ( stuck and gone ant )")

    def test_there_and_back(self):
        draw = random.Random(1)
        desk = Desk(set_lattice(2), plain_rules())
        for _ in range(300):
            deeds = [self.some_deed(draw, desk) for _ in range(draw.randrange(6))]
            text = print_deeds(deeds)
            self.exactly(own_fault(text), None)
            self.exactly(read_deeds(text), tuple(check_deed(deed) for deed in deeds))
            self.exactly(text, print_deeds(read_deeds(text)))

    def some_deed(self, draw, desk):
        deed = random_deed(draw, desk, desk.lattice)
        if deed[0] != "rule":
            return deed
        while True:
            edit = random_edit(draw, desk.rules)
            try:
                print_edit(edit)
            except BadEdit:
                continue
            return ("rule", edit)

    def test_the_first_bad_deed(self):
        for bad, error, told in ((None, BadDeed, {"what": "deed"}), ((), BadDeed, {"what": "deed"}),
                                 (("move",), BadDeed, {"what": "many"}), (("ask", True), BadDeed, {"what": "field"}),
                                 (("rule", ()), BadEdit, {"what": "edit"}), (("rule", ("left", 100)), BadEdit, {"what": "edit"}),
                                 (("rule", ("put move", 0, ("jump",))), BadEdit, {"what": "edit"})):
            for deeds in ([bad], (("worth",), bad), [("worth",), bad, None, ("rule", ("jump",))]):
                self.refused(error, told, print_deeds, deeds)

    def test_no_texts(self):
        for thing in (None, 3, True, b"worth", ["worth"], ("worth",), {}):
            self.refused(BadStory, {"row": -1}, read_deeds, thing)

    def bad(self, text, row):
        self.exactly(own_fault(text), row)
        self.refused(BadStory, {"row": row}, read_deeds, text)

    def test_bad_rows(self):
        rows = ["move", "move 01", "move -1", "move +1", "move 1 2", "move  1", " move 1", "move 1 ", "move x", "Move 1", "move 1.0",
                "move \u0661", "move\t1", "back 1", "back ", " back", "backs", "worth worth", "ask 0", "ask 401", "ask", "ask 007",
                "cut 1", "go", "go  on", "on", "go on ", "go on 1", "goon", "hands", "hands 1", "hands 9 1", "hands 0 0",
                "hands 0 5", "hands 0 1 ", "hands 0 1 01", "hands 0 1 -1", "hands 0 1 x", "hands 0 1" + " 7" * 61, "hands x 1",
                "hands 0 1 floor", "forget", "forget 00", "prime", "prime x", "certificate", "certificate roof", "certificate floor ",
                "certificate floor ceiling", "certificate  floor", "certificate 0", "rule", "rule ", "rule jump", "rule left",
                "rule left 03", "rule  left 3", "rule left  3", "rule left 3 ", "rule left 3 4", "rule left 100",
                "rule put end 1 3 if (stuck)", "rule put end 1 3 if ( stuck", "rule # 1", "", " ", "#", "-", "move 0\r"]
        for row in rows:
            self.bad(row if row else "\n", 0)
            self.bad("worth\n" + row, 1)
            self.bad("worth\n" + row + "\nback\njump", 1)
        self.bad("worth\n", 1)
        self.bad("\nworth", 0)
        self.bad("worth\n\nback", 1)
        self.exactly(read_deeds("hands 0 1" + " 7" * 60), (("hands", 0, 1, (7,) * 60),))
        self.exactly(read_deeds("move 999999999"), (("move", 999999999),))

    def test_edits_of_too_many_characters(self):
        row = "rule put end 0 0 if ( " + "and ".join(["stuck "] * 3997 + ["gone dottil "]) + ")"
        self.exactly(len(row), 40005)
        self.exactly(len(read_deeds(row)), 1)
        self.bad("worth\n" + row.replace("dottil", "dottily"), 1)

    def test_bent_texts(self):
        draw = random.Random(2)
        text = TEXT + "\n" + print_deeds([("rule", edit) for edit in EDITS])
        seen = set()
        for _ in range(4000):
            bent = list(text)
            for _ in range(draw.choice((1, 1, 2))):
                at = draw.randrange(len(bent))
                bent[at:at + draw.choice((0, 1, 1))] = draw.choice(["", "0", "9", " ", "\n", ".", "(", ")", "a", "\t", "worth"])
            bent = "".join(bent)
            fault = own_fault(bent)
            seen.add(fault is None)
            if fault is None:
                self.exactly(print_deeds(read_deeds(bent)), bent)
            else:
                self.refused(BadStory, {"row": fault}, read_deeds, bent)
        self.assertEqual(seen, {True, False})


class TestDesks(Case):
    def check(self, desk):
        """Put a desk away and take it up."""
        before = state_of(desk)
        text = put_away(desk)
        self.assertIsInstance(text, str)
        self.exactly(put_away(desk), text)
        self.exactly(state_of(desk), before)
        other = taken_up(text)
        self.assertIsInstance(other, Desk)
        self.assertEqual((other.lattice, other.rules), (desk.lattice, desk.rules))
        self.exactly((other.room, other.made, other.position), (desk.room, desk.made, desk.position))
        self.exactly((other.seen, other.log, other.going, len(other), list(other)), ((), (), None, 0, []))
        saved = desk.saved if desk.going is None else state_text(desk.going)
        self.exactly(other.saved, saved)
        return other

    def test_behind_every_deed(self):
        for lattice in LATTICES:
            draw = random.Random(lattice.size)
            for rules in GAMES[lattice.size][:2]:
                desk = Desk(lattice, rules, draw.choice((0, 3, 8, 64)))
                self.assertEqual(self.check(desk), desk)
                for _ in range(25):
                    try:
                        desk.do_deed(random_deed(draw, desk, lattice))
                    except WorthError:
                        continue
                    going = desk.going
                    other = self.check(desk)
                    if going is not None:
                        desk.do_deed(("cut",))
                        self.assertEqual(other, desk)
                        desk.do_deed(("go on",))
                    if draw.random() < 0.4:
                        desk = other

    def test_what_goes_on_tells_the_same(self):
        for lattice in DISTRIBUTIVE:
            draw = random.Random(lattice.size)
            desk = Desk(lattice, GAMES[lattice.size][0])
            worth = desk.do_deed(("worth",))
            desk.do_deed(("forget", 0)) if desk.seen else None
            for _ in range(400):
                try:
                    told = desk.do_deed(("ask", draw.choice((1, 2, 3))))
                except WorthError:
                    break
                if told[1] is not None:
                    self.exactly(told[1], worth)
                    break
                desk = taken_up(put_away(desk))
                self.exactly(desk.do_deed(("go on",)), desk.going[1])
            self.exactly(desk.going[3], worth)

    def test_a_desk_that_is_cut(self):
        desk = Desk(set_lattice(2), GAMES[4][0])
        for deed in (("move", 0), ("ask", 3), ("cut",)):
            desk.do_deed(deed)
        self.assertEqual(self.check(desk), desk)

    def test_whole_stories(self):
        for lattice in LATTICES:
            draw = random.Random(lattice.size)
            one = Desk(lattice, GAMES[lattice.size][0])
            for _ in range(30):
                try:
                    one.do_deed(random_deed(draw, one, lattice))
                except WorthError:
                    pass
            other = Desk(lattice, GAMES[lattice.size][0])
            for deed in read_deeds(print_deeds([deed for deed, _ in one])):
                other.do_deed(deed)
            self.assertEqual(one, other)
            self.exactly(one.log, other.log)
            self.exactly(as_tuples(list(one)), other.log)
