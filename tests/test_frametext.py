"""States as texts, and their faults [11.7] to [11.9]."""

import random
import re

from cutworths.engine import Engine
from cutworths.errors import BadCut
from cutworths.frametext import read_state, state_fault, state_text, told_fault
from cutworths.grounds import GameGround, TreeGround
from cutworths.making import chain_lattice, set_lattice
from cutworths.trees import Tree
from tests.base import Case
from tests.edges import PLAYS_4000, game
from tests.games import own_plays
from tests.growing import LATTICES, Plain, as_lists
from tests.views import bent_state, own_run, own_state_fault, own_told_fault, some_views

EXAMPLE = ("joins", (("meets", (1, 3)), ("meets", (2, 3))))
TEXT = "cut 1\ncontext 0 3\nasked 0.0 0.1 1.0\nframe 0 3 1 1\nframe 1 3 2 1\ngoing\n"
STATE = ((0, 3), ((0, 0), (0, 1), (1, 0)), ((0, 3, 1, 1), (1, 3, 2, 1)), None)

NUMBER = "(?:0|[1-9][0-9]{0,3})"
ROAD = f"(?:-|{NUMBER}(?:\\.{NUMBER})*)"


def random_number(draw):
    return draw.choice((0, 1, 2, 9, 10, 99, 100, 999, 1000, 9999, draw.randrange(10000)))


def random_state(draw):
    """Some state, mostly of no engine."""
    roads = tuple(tuple(random_number(draw) for _ in range(draw.randrange(4))) for _ in range(draw.randrange(5)))
    frames = tuple(tuple(random_number(draw) for _ in range(4)) for _ in range(draw.randrange(5)))
    told = draw.choice((None, random_number(draw)))
    return ((random_number(draw), random_number(draw)), roads, frames, told)


def own_fault(text):
    """The fault of a text, straight from [11.7]."""
    if not isinstance(text, str) or len(text) > 500000 or not text.endswith("\n"):
        return ("text", 0)
    rows = text[:-1].split("\n")
    if len(rows) < 4:
        return ("rows", len(rows))
    forms = [("first", "cut 1"), ("context", f"context {NUMBER} {NUMBER}"), ("asked", f"asked(?: {ROAD})*")]
    forms += [("frame", f"frame {NUMBER} {NUMBER} {NUMBER} {NUMBER}")] * (len(rows) - 4)
    forms += [("told", f"(?:told {NUMBER}|going)")]
    for at, (row, (word, form)) in enumerate(zip(rows, forms)):
        if not re.fullmatch(form, row, re.ASCII):
            return (word, at)
    return None


class TestTexts(Case):
    def test_example(self):
        self.exactly(state_text(STATE), TEXT)
        self.exactly(read_state(TEXT), STATE)
        self.exactly(state_text(((0, 3), (), (), None)), "cut 1\ncontext 0 3\nasked\ngoing\n")
        self.exactly(state_text(((1, 0), ((),), (), 0)), "cut 1\ncontext 1 0\nasked -\ntold 0\n")
        self.exactly(read_state("cut 1\ncontext 1 0\nasked -\ntold 0\n"), ((1, 0), ((),), (), 0))
        wide = ((9999, 0), ((9999, 0, 10), (), (7,)), ((0, 9999, 1000, 3999),), 9999)
        self.exactly(state_text(wide), "cut 1\ncontext 9999 0\nasked 9999.0.10 - 7\nframe 0 9999 1000 3999\ntold 9999\n")
        self.exactly(read_state(state_text(wide)), wide)

    def test_there_and_back(self):
        draw = random.Random(1)
        for _ in range(600):
            state = random_state(draw)
            text = state_text(state)
            self.exactly(own_fault(text), None)
            self.exactly(read_state(text), state)
            self.exactly(state_text(as_lists(state)), text)

    def test_bent_texts(self):
        draw = random.Random(2)
        told = {}
        for _ in range(6000):
            text = list(state_text(random_state(draw)))
            for _ in range(draw.choice((1, 1, 1, 2, 3))):
                at = draw.randrange(len(text))
                text[at:at + draw.choice((0, 1, 1))] = draw.choice(
                    ["", "0", "1", " ", "\n", ".", "-", "frame", "\r", "\t", "\u0661", "+", "00", "going", "\x0b", "_"])
            text = "".join(text)
            fault = own_fault(text)
            told[fault and fault[0]] = told.get(fault and fault[0], 0) + 1
            if fault is None:
                self.exactly(state_text(read_state(text)), text)
            else:
                self.refused(BadCut, {"what": fault[0], "at": fault[1]}, read_state, text)
        self.assertEqual(set(told), {None, "text", "rows", "first", "context", "asked", "frame", "told"})

    def check(self, text, what, at):
        self.exactly(own_fault(text), (what, at))
        self.refused(BadCut, {"what": what, "at": at}, read_state, text)

    def test_texts_that_are_none(self):
        for text in (None, 3, True, b"cut 1\n", ["cut 1\n"], (), "", "cut 1", TEXT[:-1], TEXT + " ", TEXT + "\n."):
            self.check(text, "text", 0)

    def test_too_long(self):
        row = "asked" + " 0.0" * 124980
        text = f"cut 1\ncontext 0 3\n{row}\ngoing\n"
        text = text.replace("asked", "asked" + " -" * ((500000 - len(text)) // 2))
        text = text if len(text) == 500000 else text.replace("asked -", "asked 10")
        self.exactly(len(text), 500000)
        self.exactly(len(read_state(text)[1]), text.split("\n")[2].count(" "))
        text = text.replace(" 0.0", " 10.0", 1)
        self.exactly(len(text), 500001)
        self.check(text, "text", 0)

    def test_too_few_rows(self):
        rows = ["cut 1", "context 0 3", "asked", "going"]
        self.exactly(read_state("\n".join(rows) + "\n"), ((0, 3), (), (), None))
        for many in (1, 2, 3):
            self.check("\n".join(rows[:many]) + "\n", "rows", many)
            self.check("\n".join(["wrong"] * many) + "\n", "rows", many)
        self.check("\n", "rows", 1)
        self.check("\n\n\n", "rows", 3)
        self.check("\n\n\n\n", "first", 0)

    def test_each_row(self):
        rows = TEXT[:-1].split("\n")
        wrongs = {0: ["", "cut", "cut 2", "cut 01", "cut 1 ", " cut 1", "cut  1", "Cut 1", "cut 1 0"],
                  1: ["", "context", "context 0", "context 0 3 1", "context 0  3", "context 0 3 ", " context 0 3",
                      "context 0 03", "context 0 -1", "context 0 10000", "context 0 +3", "context a 3", "frame 0 3",
                      "context 0\t3", "context 0 3.0", "context 00 3", "context 0 \u0663"],
                  2: ["", "asked ", "asked  0", "asked 0 ", "ask 0.0", "asked 0.", "asked .0", "asked 0..1", "asked --",
                      "asked -.0", "asked 0.-", "asked 01", "asked 0.10000", "asked 0,1", "asked a", "asked -1", " asked"],
                  3: ["", "frame", "frame 0 3 1", "frame 0 3 1 1 1", "frame 0 3 1  1", "frame 0 3 1 1 ", "frame 0 3 1 01",
                      "frame 0 3 1 10000", "frame 0 3 1 -1", "going", "told 1", "frame 0 3 1 a"],
                  5: ["", "going ", " going", "going 1", "told", "told 1 2", "told 01", "told 10000", "told -1", "told  1",
                      "told None", "frame 0 3 1 1", "asked", "goin"]}
        words = {0: "first", 1: "context", 2: "asked", 3: "frame", 5: "told"}
        for at, things in wrongs.items():
            for thing in things:
                self.check("\n".join(rows[:at] + [thing] + rows[at + 1:]) + "\n", words[at], at)
        self.check("\n".join(rows[:4] + ["frame 0 3"] + rows[5:]) + "\n", "frame", 4)
        self.check("\n".join(rows[:5] + ["going"] + rows[5:]) + "\n", "frame", 5)
        self.check("\n".join(rows[:5]) + "\n", "told", 4)

    def test_the_first_fault_from_the_top(self):
        rows = ["cut 2", "context", "asked  ", "frame", "gone"]
        rights = ["cut 1", "context 0 3", "asked", "frame 0 3 0 0", "going"]
        for at, word in enumerate(("first", "context", "asked", "frame", "told")):
            self.check("\n".join(rights[:at] + rows[at:]) + "\n", word, at)


class TestFaults(Case):
    def some_states(self, plain, draw, lattice, view):
        context = draw.choice([(plain.bottom, plain.top)] + plain.contexts())
        return [(context, (), (), None)] + [state for _, state in own_run(plain, view, context)]

    def test_in_every_lattice(self):
        told = {}
        for lattice in LATTICES:
            plain, draw = Plain(lattice), random.Random(lattice.size)
            for view in some_views(lattice, "faults", 6, 2):
                ground = view.ground()
                states = self.some_states(plain, draw, lattice, view)
                for _ in range(70):
                    state = draw.choice(states)
                    for _ in range(draw.choice((0, 1, 1, 1, 2))):
                        state = bent_state(draw, lattice, state)
                    before = repr(state)
                    fault, other = own_state_fault(plain, view, state), own_told_fault(plain, view, state)
                    told[fault and fault[0]] = told.get(fault and fault[0], 0) + 1
                    told[other and other[0]] = told.get(other and other[0], 0) + 1
                    self.exactly(state_fault(lattice, ground, state), fault)
                    self.exactly(told_fault(lattice, ground, state), other)
                    self.exactly(state_fault(lattice, ground, as_lists(state)), fault)
                    self.exactly(told_fault(lattice, ground, as_lists(state)), other)
                    self.exactly(repr(state), before)
        self.assertEqual(set(told), {None, "context", "told", "still", "frame", "bound", "asked", "so far", "worth"})
        self.assertTrue(min(told.values()) > 10, told)

    def faults(self, state, fault, other=None):
        lattice, ground = set_lattice(2), TreeGround(Tree(EXAMPLE))
        self.exactly(state_fault(lattice, ground, state), fault)
        self.exactly(told_fault(lattice, ground, state), fault or other)

    def test_heads(self):
        for worth in (-1, 4, 10 ** 20):
            self.faults(((worth, 3), (), (), 9), ("context", 0))
            self.faults(((0, worth), (), (), 9), ("context", 0))
            self.faults(((0, 3), (), (), worth), ("told", 0))
        self.faults(((3, 3), (), ((0, 3, 0, 0),), 3), ("told", 0))
        self.faults(((3, 3), (), (), None), ("still", 0))
        self.faults(((3, 3), (), (), 1), None)
        self.faults(((3, 3), (), ((0, 9, 0, 0),), None), ("still", 0))
        self.faults(((0, 3), (), (), 3), None)
        self.faults(((0, 3), (), (), 2), None, ("worth", 0))
        self.faults(((0, 2), (), (), 2), None)
        self.faults(((0, 2), (), (), 1), None, ("worth", 0))

    def test_frames(self):
        def state(*frames):
            return ((0, 3), (), frames, None)
        self.faults(state((0, 3, 0, 0)), None)
        self.faults(state((0, 3, 0, 2)), None, ("so far", 0))
        self.faults(state((0, 3, 3, 2)), None)
        for frame in ((0, 3, 0, 3), (0, 3, 0, -1), (4, 3, 0, 0), (0, -1, 0, 0), (0, 3, 4, 0)):
            self.faults(state(frame), ("frame", 0))
        self.faults(state((0, 3, 0, 2), (0, 3, 3, 0)), ("frame", 0))
        self.faults(state((0, 3, 0, 0), (0, 3, 3, 0)), None)
        self.faults(state((0, 3, 0, 0), (0, 3, 3, 2)), None, ("so far", 1))
        self.faults(state((0, 3, 0, 0), (0, 3, 1, 2)), None)
        self.faults(state((0, 3, 0, 0), (0, 3, 3, 3)), ("frame", 1))
        self.faults(state((0, 3, 0, 0), (0, 3, 3, 0), (0, 3, 0, 0)), ("frame", 2))
        self.faults(state((0, 1, 0, 0)), ("bound", 0))
        self.faults(state((0, 3, 1, 1), (0, 3, 3, 0)), ("bound", 1))
        self.faults(state((0, 3, 1, 1), (1, 3, 3, 0)), None)
        self.faults(state((0, 3, 3, 1), (3, 3, 3, 0)), ("still", 1), None)
        self.faults(state((0, 3, 2, 1), (2, 3, 3, 0)), None, ("so far", 0))
        # Two at once: frame by frame, and ahead of the roads asked.
        self.faults(((0, 3), ((9,),), ((0, 3, 9, 0), (9, 9, 9, 9)), None), ("frame", 0))
        self.faults(((0, 3), ((9,),), ((0, 1, 0, 0), (9, 9, 9, 9)), None), ("bound", 0))
        self.faults(((0, 3), ((9,),), ((0, 3, 0, 0),), None), ("asked", 0))

    def test_roads_asked(self):
        going = ((0, 3, 1, 1), (1, 3, 3, 1))
        self.faults(((0, 3), (), going, None), None)
        self.faults(((0, 3), ((0, 0), (0, 1), (1, 0)), going, None), None)
        self.faults(((0, 3), ((0, 1), (1, 0)), ((0, 3, 1, 1), (1, 3, 1, 1)), None), None, ("so far", 1))
        self.faults(((0, 3), ((0, 0), (0, 0)), going, None), ("asked", 1))
        self.faults(((0, 3), ((0, 1), (0, 0)), going, None), ("asked", 1))
        self.faults(((0, 3), ((0, 0), (1, 1)), going, None), ("asked", 1))
        for road in ((), (0,), (2,), (0, 2), (0, 0, 0), (-1,), (0, -1), (9999,)):
            self.faults(((0, 3), (road,), going, None), ("asked", 0))
        # Without frames nothing can have been asked unless a worth is told.
        self.faults(((0, 3), ((0, 0),), (), None), ("asked", 0))
        self.faults(((0, 3), ((0, 0), (1, 1)), (), 3), None)
        self.faults(((0, 3), ((1, 1), (0, 0)), (), 3), ("asked", 1))
        self.faults(((3, 3), ((0, 0),), (), 0), None)
        lattice, ground = chain_lattice(3), TreeGround(Tree(2))
        self.exactly(state_fault(lattice, ground, ((0, 2), ((),), (), 2)), None)
        self.exactly(state_fault(lattice, ground, ((0, 2), ((),), (), None)), ("asked", 0))
        self.exactly(state_fault(lattice, ground, ((0, 2), (), ((0, 2, 0, 0),), None)), ("frame", 0))
        self.exactly(told_fault(lattice, ground, ((0, 2), ((),), (), 1)), ("worth", 0))

    def test_many_roads(self):
        rules, start = game(PLAYS_4000)
        lattice, ground = set_lattice(2), GameGround(rules, start)
        roads = tuple(road for road, _ in own_plays(rules, start))
        worth = Engine(lattice, ground).finish_all()
        state = ((0, 3), roads, (), worth)
        self.exactly(len(roads), 4000)
        self.exactly(read_state(state_text(state)), state)
        self.exactly((state_fault(lattice, ground, state), told_fault(lattice, ground, state)), (None, None))
        self.exactly(state_fault(lattice, ground, ((0, 3), roads + roads[-1:], (), worth)), ("asked", 4000))
