"""Desks and what is done at them [16.2] to [16.11], [16.14]."""

import copy
import random

from cutworths.bars import bar_game
from cutworths.cutting import cut_search, parent_search
from cutworths.desk import Desk, Trial
from cutworths.edits import edited_rules
from cutworths.engine import Engine
from cutworths.errors import (BadDeed, BadDesk, BadEdit, BadRules, Barred, Finished, IsCut, NoBack, NoEngine, NoLook,
                              NoMove, NotCut, NotPrime, NoWorth, TooMany, WorthError)
from cutworths.frametext import read_state, state_text
from cutworths.grounds import GameGround
from cutworths.kepts import memory_fault, memory_search
from cutworths.lattices import Lattice
from cutworths.making import chain_lattice, diamond_lattice, pentagon_lattice, set_lattice
from cutworths.memory import Memory
from cutworths.trees import Tree, tree_of
from cutworths.weaving import woven_by
from tests.base import NO_NUMBERS, PENTAGON, Case
from tests.edges import PLAYS_4000, PLAYS_4001, game
from tests.games import (changed, lively_games, own_behind, own_count, own_end, own_moves, own_next, own_plays, own_shape,
                         plain_rules, random_condition, random_move)
from tests.growing import DISTRIBUTIVE, LATTICES, OTHERS, Plain, leaf_rows
from tests.test_certificates import own_certificate
from tests.test_goals import own_firm

GAMES = {lattice.size: [rules for rules, _ in lively_games(lattice.size, 3, 60, 6, min(3, lattice.size))]
         for lattice in LATTICES}


def told_of(error):
    """The class and the attributes of an error."""
    return (error.__class__.__name__, {name: thing.shape if isinstance(thing, Tree) else thing
                                       for name, thing in vars(error).items()})


class OwnDesk:
    """A desk by [16.4] to [16.10], with a living engine and the moves made played anew each time."""

    def __init__(self, lattice, rules, room):
        self.lattice, self.rules, self.room = lattice, rules, room
        self.plain = Plain(lattice)
        self.made, self.seen, self.engine, self.saved, self.log = [], (), None, None, []

    def position(self):
        position = (self.rules.start, self.rules.side, self.rules.left)
        for move in self.made:
            position = own_behind(position, move)
        return position

    def state(self):
        going = None if self.engine is None else self.engine.engine_state()
        return (tuple(self.made), self.seen, going, self.saved, tuple(self.log), self.position())

    def memory(self):
        memory = Memory(self.lattice, self.room)
        for look in self.seen:
            memory.keep_look(*look)
        return memory

    def shape(self):
        if own_count(self.rules, self.position(), 4001) > 4000:
            raise TooMany(4000)
        return own_shape(self.rules, self.position())

    def do(self, deed):
        name = "do_" + deed[0].replace(" ", "_")
        told = getattr(self, name)(*deed[1:])
        self.log.append((deed, told))
        return told

    def moved(self):
        self.engine = self.saved = None
        return self.position()

    def do_move(self, at):
        moves = own_moves(self.rules, self.position()) if own_end(self.rules, self.position()) is None else ()
        if at >= len(moves):
            raise NoMove(at)
        self.made.append(moves[at])
        return self.moved()

    def do_back(self):
        if not self.made:
            raise NoBack()
        self.made.pop()
        return self.moved()

    def do_worth(self):
        if self.lattice in OTHERS:
            return self.plain.worth_of(self.shape())
        memory = self.memory()
        told = memory_search(self.lattice, self.rules, self.position(), (self.plain.bottom, self.plain.top), memory).worth
        self.seen = memory.looks
        return told

    def do_ask(self, steps):
        if self.lattice in OTHERS:
            raise Barred(bar_game(self.lattice))
        if self.saved is not None:
            raise IsCut()
        if self.engine is not None and self.engine.ended:
            raise Finished()
        memory = self.memory()
        if self.engine is None:
            self.engine = Engine(self.lattice, GameGround(self.rules, self.position()))
        self.engine.memory = memory
        events = self.engine.go_steps(steps)
        self.seen = memory.looks
        return (tuple(event[1] for event in events if event[0] == "ask"), self.engine.told)

    def do_cut(self):
        if self.saved is not None:
            raise IsCut()
        if self.engine is None:
            raise NoEngine()
        self.saved, self.engine, self.seen = self.engine.cut_text(), None, ()
        return self.saved

    def do_go_on(self):
        if self.saved is None:
            raise NotCut()
        self.engine = Engine.gone_on(self.lattice, GameGround(self.rules, self.position()), self.saved)
        self.saved = None
        return self.engine.asked

    def do_hands(self, depth, hands, picks):
        if self.lattice in OTHERS:
            raise Barred(bar_game(self.lattice))
        memory = self.memory()
        weaving = woven_by(self.lattice, GameGround(self.rules, self.position()), depth, hands, picks, memory)
        self.seen = memory.looks
        return (weaving.asked, weaving.woven_worth())

    def do_forget(self, at):
        if at >= len(self.seen):
            raise NoLook(at)
        look = self.seen[at]
        self.seen = self.seen[:at] + self.seen[at + 1:]
        return look

    def do_prime(self, prime):
        shape = self.shape()
        if prime not in self.plain.worths:
            raise NoWorth(prime)
        if prime not in own_firm(self.plain):
            raise NotPrime(prime)
        return self.plain.table[prime][self.plain.worth_of(shape)]

    def do_certificate(self, which):
        shape = self.shape()
        search = parent_search if self.lattice in OTHERS else cut_search
        return own_certificate(self.plain, shape, search(self.lattice, Tree(shape)).asked, which)

    def do_rule(self, edit):
        rules = edited_rules(self.rules, edit)
        before, self.rules, self.made = self.made, rules, []
        for move in before:
            position = self.position()
            if own_end(rules, position) is not None or move not in own_moves(rules, position):
                break
            self.made.append(move)
        self.seen = ()
        self.moved()
        return len(self.made)


def state_of(desk):
    """All that can be seen of a desk."""
    return (desk.made, desk.seen, desk.going, desk.saved, desk.log, desk.position)


def random_edit(draw, rules):
    """Some edit, mostly one that fits."""
    cells = rules.board.size
    arrows, kinds = [name for name, _ in rules.board.arrows], list(rules.kind_names)
    what = draw.randrange(8)
    wild = draw.random() < 0.15
    if what == 0:
        return ("put move", draw.randrange(len(rules.moves) + 1 + wild), random_move(draw, cells + wild, arrows, kinds))
    if what == 1:
        return ("drop move", draw.randrange(max(1, len(rules.moves)) + wild))
    if what == 2:
        end = (random_condition(draw, cells, arrows, kinds, 2), draw.randrange(rules.worths + wild))
        return ["put end", draw.randrange(len(rules.ends) + 1 + wild), list(end)]
    if what == 3:
        return ("drop end", draw.randrange(max(1, len(rules.ends)) + wild))
    if what == 4:
        return ("left", draw.choice((1, 2, 3, 4, 9 if wild else 3)))
    if what == 5:
        return ("last", draw.randrange(3 + wild), draw.randrange(rules.worths))
    if what == 6:
        return ("side", draw.randrange(2 + wild))
    return draw.choice((("cell", draw.randrange(cells), draw.choice([""] + kinds)), ("left",), ("cells", 0, ""), ()))


def random_deed(draw, desk, lattice):
    """Some deed, mostly one that can be done."""
    word = draw.choice(("move", "move", "back", "worth", "ask", "ask", "ask", "cut", "go on", "hands", "forget", "prime",
                        "certificate", "rule"))
    if word == "move":
        return ("move", draw.randrange(max(1, len(own_next(desk.rules, desk.position))) + (draw.random() < 0.1)))
    if word == "ask":
        return ("ask", draw.choice((1, 1, 2, 3, 5, 20, 400)))
    if word == "hands":
        return ("hands", draw.randrange(4), draw.randint(1, 4), [draw.randrange(9) for _ in range(draw.randrange(8))])
    if word == "forget":
        return ("forget", draw.randrange(max(1, len(desk.seen)) + (draw.random() < 0.2)))
    if word == "prime":
        return ["prime", draw.randrange(lattice.size + 1)]
    if word == "certificate":
        return ("certificate", draw.choice(("floor", "ceiling")))
    if word == "rule":
        return ("rule", small_edit(draw, desk.rules))
    return (word,)


def small_edit(draw, rules):
    """Some edit behind which the game has few plays."""
    while True:
        edit = random_edit(draw, rules)
        try:
            edited = edited_rules(rules, edit)
        except WorthError:
            return edit
        if own_count(edited, (edited.start, edited.side, edited.left), 121) <= 120:
            return edit


def as_tuples(thing):
    return tuple(as_tuples(item) for item in thing) if isinstance(thing, (list, tuple)) else thing


class TestRows(Case):
    def one_deed(self, desk, own, deed):
        before, given = state_of(desk), repr(deed)
        try:
            wanted = own.do(as_tuples(deed))
        except WorthError as error:
            wanted = told_of(error)
            with self.assertRaises(WorthError) as caught:
                desk.do_deed(deed)
            self.exactly(told_of(caught.exception), wanted)
            self.exactly(state_of(desk), before)
            return wanted[0]
        self.exactly(desk.do_deed(deed), wanted)
        self.exactly(repr(deed), given)
        return None

    def test_in_every_lattice(self):
        found = set()
        for lattice in LATTICES:
            draw = random.Random(lattice.size)
            for rules in GAMES[lattice.size]:
                room = draw.choice((0, 1, 3, 8, 64))
                desk, own = Desk(lattice, rules, room), OwnDesk(lattice, rules, room)
                for _ in range(40):
                    deed = random_deed(draw, desk, lattice)
                    error = self.one_deed(desk, own, deed)
                    found.add((deed[0], error))
                    self.exactly(state_of(desk), own.state())
                    self.assertEqual(desk.rules, own.rules)
                    self.exactly((len(desk), list(desk)), (len(own.log), own.log))
                    if error is None and lattice in DISTRIBUTIVE:
                        self.right_worth(lattice, desk)
        for wanted in (("move", "NoMove"), ("back", "NoBack"), ("ask", "Barred"), ("ask", "IsCut"), ("ask", "Finished"),
                       ("cut", "IsCut"), ("cut", "NoEngine"), ("go on", "NotCut"), ("hands", "Barred"), ("forget", "NoLook"),
                       ("prime", "NoWorth"), ("prime", "NotPrime"), ("rule", "BadEdit"), ("rule", "BadRules")):
            self.assertIn(wanted, found)
        self.assertEqual({word for word, error in found if error is None},
                         {"move", "back", "worth", "ask", "cut", "go on", "hands", "forget", "prime", "certificate", "rule"})

    def right_worth(self, lattice, desk):
        """[16.14]: a worth told by the last deed is the plain one; the memory has no fault."""
        deed, told = desk.log[-1]
        if deed[0] in ("worth", "ask", "hands"):
            worth = told if deed[0] == "worth" else told[1]
            if worth is not None:
                self.exactly(worth, Plain(lattice).worth_of(own_shape(desk.rules, desk.position)))
            memory = Memory(lattice, desk.room)
            for look in desk.seen:
                memory.keep_look(*look)
            self.exactly(memory.looks, desk.seen)
            self.exactly(memory_fault(lattice, desk.rules, memory), None)

    def test_only_moves_backs_and_edits_move(self):
        for lattice in LATTICES[1:]:
            draw = random.Random(lattice.size)
            rules = GAMES[lattice.size][0]
            desk, bare = Desk(lattice, rules), Desk(lattice, rules)
            for _ in range(40):
                deed = random_deed(draw, desk, lattice)
                try:
                    desk.do_deed(deed)
                except WorthError:
                    continue
                if deed[0] in ("move", "back", "rule"):
                    bare.do_deed(deed)
                self.exactly((desk.position, desk.made), (bare.position, bare.made))
                self.assertEqual(desk.rules, bare.rules)


class TestNew(Case):
    def test_attributes(self):
        lattice, rules = set_lattice(2), plain_rules()
        for desk, room in ((Desk(lattice, rules), 8), (Desk(lattice, rules, 0), 0), (Desk(lattice, rules, room=64), 64)):
            self.assertIs(desk.lattice, lattice)
            self.assertIs(desk.rules, rules)
            self.exactly((desk.room, desk.made, desk.seen, desk.going, desk.saved, desk.log), (room, (), (), None, None, ()))
            self.exactly(desk.position, (rules.start, rules.side, rules.left))
            self.exactly((len(desk), list(desk)), (0, []))

    def test_bad_desks(self):
        rules = plain_rules()
        for lattice in (set_lattice(1), chain_lattice(5), pentagon_lattice()):
            for room in (8, -1, None):
                self.refused(BadDesk, {"what": "worths"}, Desk, lattice, rules, room)
        for room in (-1, 65, 10 ** 20) + NO_NUMBERS:
            self.refused(BadDesk, {"what": "room"}, Desk, chain_lattice(4), rules, room)

    def test_equality(self):
        lattice, rules = set_lattice(2), GAMES[4][0]
        desk = Desk(lattice, rules)
        self.assertEqual(desk, Desk(set_lattice(2), changed(rules), 8))
        for other in (Desk(chain_lattice(4), rules), Desk(lattice, changed(rules, left=1)), Desk(lattice, rules, 9),
                      lattice, None, ()):
            self.assertNotEqual(desk, other)
        # What was done is not asked, only what it led to.
        other = Desk(lattice, rules)
        for deed in (("move", 0), ("back",), ("prime", 1), ("certificate", "floor")):
            other.do_deed(deed)
        self.assertEqual(desk, other)
        for deeds in ([("move", 0)], [("worth",)], [("ask", 1)], [("ask", 1), ("cut",)]):
            one, twin = Desk(lattice, rules), Desk(lattice, rules)
            for deed in deeds:
                one.do_deed(deed)
                twin.do_deed(deed)
            self.assertNotEqual(desk, one)
            self.assertEqual(twin, one)

    def test_desks_are_their_own(self):
        lattice, rules = set_lattice(2), GAMES[4][0]
        one, other = Desk(lattice, rules), Desk(lattice, rules)
        one.do_deed(("move", 0))
        one.do_deed(("worth",))
        self.exactly(state_of(other), ((), (), None, None, (), (rules.start, rules.side, rules.left)))


class TestEachDeed(Case):
    def desk(self, lattice=None, room=8, at=0):
        lattice = lattice or set_lattice(2)
        return Desk(lattice, GAMES[lattice.size][at], room)

    def refuse(self, desk, error, told, deed):
        before = state_of(desk)
        self.refused(error, told, desk.do_deed, deed)
        self.exactly(state_of(desk), before)

    def test_bad_deeds(self):
        desk = self.desk()
        for deed, what in ((None, "deed"), (("jump",), "deed"), (("move",), "many"), (("move", True), "field"),
                           (("ask", 0), "field"), (("rule", "left"), "field")):
            self.refuse(desk, BadDeed, {"what": what}, deed)

    def test_moves_and_backs(self):
        desk = self.desk()
        start = desk.position
        self.refuse(desk, NoBack, {}, ("back",))
        behind = own_next(desk.rules, start)
        self.exactly(desk.do_deed(["move", 1]), behind[1])
        self.exactly(desk.made, (own_moves(desk.rules, start)[1],))
        self.exactly(desk.log, ((("move", 1), behind[1]),))
        for at in (len(own_next(desk.rules, behind[1])), 10 ** 20):
            self.refuse(desk, NoMove, {"at": at}, ("move", at))
        desk.do_deed(("worth",))
        seen = desk.seen
        self.exactly(desk.do_deed(("back",)), start)
        self.exactly((desk.made, desk.position, desk.seen), ((), start, seen))
        desk.do_deed(("move", 0))
        self.exactly(desk.seen, seen)

    def test_moves_and_backs_drop_the_engine(self):
        for last in (("move", 0), ("back",)):
            for way in ([("ask", 2)], [("ask", 2), ("cut",)], [("ask", 400)]):
                desk = self.desk()
                for deed in [("move", 0)] + way:
                    desk.do_deed(deed)
                self.assertTrue(desk.going is not None or desk.saved is not None)
                desk.do_deed(last)
                self.exactly((desk.going, desk.saved), (None, None))
        desk = self.desk()
        desk.do_deed(("ask", 2))
        self.refuse(desk, NoMove, {"at": 99}, ("move", 99))
        self.refuse(desk, NoBack, {}, ("back",))

    def test_a_position_that_is_over(self):
        desk = self.desk()
        while own_end(desk.rules, desk.position) is None:
            desk.do_deed(("move", 0))
        worth = Plain(desk.lattice).worth_of(own_shape(desk.rules, desk.position))
        self.refuse(desk, NoMove, {"at": 0}, ("move", 0))
        self.exactly(desk.do_deed(("worth",)), worth)
        self.exactly(desk.do_deed(("ask", 9)), (((),), worth))
        self.exactly(desk.do_deed(("hands", 3, 2, ())), (((),), worth))
        self.exactly(desk.seen, ())
        self.exactly(desk.do_deed(("certificate", "floor")), (worth, ()))

    def test_ask_cut_and_go_on(self):
        desk = self.desk()
        ground = GameGround(desk.rules, desk.position)
        memory = Memory(desk.lattice, 8)
        engine = Engine(desk.lattice, ground, None, memory)
        self.refuse(desk, NoEngine, {}, ("cut",))
        self.refuse(desk, NotCut, {}, ("go on",))
        engine.go_steps(9)
        self.exactly(desk.do_deed(("ask", 9)), (engine.asked, engine.told))
        self.exactly((desk.going, desk.seen), (engine.engine_state(), memory.looks))
        self.refuse(desk, NotCut, {}, ("go on",))
        asked = engine.asked
        self.exactly(desk.do_deed(("cut",)), engine.cut_text())
        self.exactly((desk.saved, desk.going, desk.seen), (engine.cut_text(), None, ()))
        self.refuse(desk, IsCut, {}, ("ask", 1))
        self.refuse(desk, IsCut, {}, ("cut",))
        self.exactly(desk.do_deed(("go on",)), asked)
        self.exactly((desk.going, desk.saved, desk.seen), (engine.engine_state(), None, ()))
        engine.memory = Memory(desk.lattice, 8)
        engine.finish_all()
        self.exactly(desk.do_deed(("ask", 400)), (engine.asked[len(asked):], engine.told))
        self.refuse(desk, Finished, {}, ("ask", 1))
        self.exactly(desk.going, engine.engine_state())
        # An engine that has ended can be cut, too.
        self.exactly(read_state(desk.do_deed(("cut",))), engine.engine_state())
        self.exactly(desk.do_deed(("go on",)), engine.asked)
        self.refuse(desk, Finished, {}, ("ask", 1))

    def test_other_searches_do_not_touch_the_engine(self):
        desk = self.desk()
        desk.do_deed(("ask", 5))
        going = desk.going
        for deed in (("worth",), ("hands", 1, 2, (0, 1, 1)), ("forget", 0), ("prime", 1), ("certificate", "floor")):
            desk.do_deed(deed)
            self.exactly((desk.going, desk.saved), (going, None))
        text = desk.do_deed(("cut",))
        for deed in (("worth",), ("hands", 1, 2, (0, 1, 1)), ("forget", 0), ("prime", 1), ("certificate", "floor")):
            desk.do_deed(deed)
            self.exactly((desk.going, desk.saved), (None, text))
        worth = desk.do_deed(("worth",))
        desk.do_deed(("go on",))
        self.exactly(desk.do_deed(("ask", 400))[1], worth)

    def test_the_memory(self):
        for room in (0, 1, 3, 64):
            desk = self.desk(room=room)
            worth = desk.do_deed(("worth",))
            seen = desk.seen
            self.assertTrue(len(seen) <= room and (room == 0) == (seen == ()))
            if room:
                self.exactly(seen[-1], (desk.position, (0, 3), worth))
                # The look serves the root of any search from here on.
                self.exactly(desk.do_deed(("ask", 1)), ((), worth))
                self.exactly(desk.do_deed(("hands", 0, 1, ())), ((), worth))
                look = desk.do_deed(("forget", len(seen) - 1))
                self.exactly((look, desk.seen), (seen[-1], seen[:-1]))
            for at in (len(desk.seen), 10 ** 20):
                self.refuse(desk, NoLook, {"at": at}, ("forget", at))

    def test_hands(self):
        for depth, hands, picks in ((0, 1, ()), (1, 2, (0, 1, 1)), (8, 4, (7,) * 60), (2, 3, [10 ** 30])):
            desk = self.desk()
            memory = Memory(desk.lattice, 8)
            weaving = woven_by(desk.lattice, GameGround(desk.rules, desk.position), depth, hands, picks, memory)
            self.exactly(desk.do_deed(("hands", depth, hands, picks)), (weaving.asked, weaving.woven_worth()))
            self.exactly(desk.seen, memory.looks)

    def test_too_many_spots(self):
        rules, _ = game(PLAYS_4000)
        desk = Desk(set_lattice(2), rules)
        desk.do_deed(("move", 0))
        desk.do_deed(("back",))
        desk.do_deed(("ask", 3))
        self.refuse(desk, TooMany, {"most": 400}, ("hands", 8, 1, ()))

    def test_barred(self):
        for lattice in OTHERS:
            desk = self.desk(lattice)
            for deed in (("ask", 1), ("hands", 1, 1, ())):
                before = state_of(desk)
                with self.assertRaises(Barred) as caught:
                    desk.do_deed(deed)
                self.assertEqual(caught.exception.tree, bar_game(lattice))
                self.exactly(state_of(desk), before)
            for deed, error in ((("cut",), NoEngine), (("go on",), NotCut), (("forget", 0), NoLook)):
                self.refused(error, {}, desk.do_deed, deed)
            worth = Plain(lattice).worth_of(own_shape(desk.rules, desk.position))
            self.exactly(desk.do_deed(("worth",)), worth)
            self.exactly((desk.seen, desk.going), ((), None))
            for which in ("floor", "ceiling"):
                self.exactly(desk.do_deed(("certificate", which))[0], worth)
            # Ahead of what else would be refused.
            rules, _ = game(PLAYS_4000)
            large = Desk(lattice, changed(rules, worths=lattice.size))
            self.refused(Barred, {}, large.do_deed, ("hands", 8, 1, ()))

    def test_primes_and_certificates(self):
        for lattice in LATTICES:
            plain = Plain(lattice)
            desk = self.desk(lattice)
            shape = own_shape(desk.rules, desk.position)
            worth, firm = plain.worth_of(shape), own_firm(plain)
            for prime in plain.worths:
                if prime in firm:
                    self.exactly(desk.do_deed(("prime", prime)), plain.table[prime][worth])
                else:
                    self.refuse(desk, NotPrime, {"worth": prime}, ("prime", prime))
            for prime in (lattice.size, 10 ** 20):
                self.refuse(desk, NoWorth, {"worth": prime}, ("prime", prime))
            search = parent_search if lattice in OTHERS else cut_search
            for which in ("floor", "ceiling"):
                lot = search(lattice, Tree(shape)).asked
                told = desk.do_deed(("certificate", which))
                self.exactly(told, own_certificate(plain, shape, lot, which))
                self.exactly(told[0], worth)
            self.exactly((desk.seen, desk.going), ((), None))

    def test_too_many_plays(self):
        rules, start = game(PLAYS_4001)
        lattice = set_lattice(2)
        desk = Desk(lattice, rules)
        for deed in (("prime", 1), ("prime", 0), ("prime", 99), ("certificate", "floor")):
            self.refuse(desk, TooMany, {"most": 4000}, deed)
        self.refuse(desk, BadDeed, {"what": "field"}, ("certificate", "roof"))
        five = Desk(Lattice(PENTAGON), changed(rules, worths=5))
        self.refuse(five, TooMany, {"most": 4000}, ("worth",))
        many, _ = game(PLAYS_4000)
        five = Desk(Lattice(PENTAGON), changed(many, worths=5))
        told = five.do_deed(("worth",))
        self.exactly(told, parent_search(five.lattice, tree_of(five.rules, five.position)).worth)
        self.exactly(len(leaf_rows(tree_of(five.rules, five.position).shape)), 4000)
        self.exactly(len(own_plays(rules, start)), 4001)

    def test_edits(self):
        desk = self.desk()
        for deed in (("move", 0), ("move", 0), ("worth",), ("ask", 2)):
            desk.do_deed(deed)
        made = desk.made
        self.refuse(desk, BadEdit, {"what": "edit"}, ("rule", ()))
        self.refuse(desk, BadEdit, {"what": "edit"}, ("rule", ("jump", 1)))
        self.refuse(desk, BadEdit, {"what": "at"}, ("rule", ("drop move", 99)))
        self.refuse(desk, BadRules, {"what": "left", "at": 0}, ("rule", ("left", 9)))
        self.refuse(desk, BadRules, {"what": "side", "at": 0}, ("rule", ("side", True)))
        rules = desk.rules
        # An edit that changes no move keeps all moves made.
        self.exactly(desk.do_deed(("rule", ["last", 0, 3])), 2)
        self.assertEqual(desk.rules, edited_rules(rules, ("last", 0, 3)))
        self.exactly((desk.made, desk.seen, desk.going, desk.saved), (made, (), None, None))
        self.exactly(desk.log[-1], (("rule", ("last", 0, 3)), 2))
        # With one move left at the start the second one is none any more.
        self.exactly(desk.do_deed(("rule", ("left", 1))), 1)
        self.exactly((desk.made, desk.position), (made[:1], own_behind((rules.start, rules.side, 1), made[0])))
        self.exactly(desk.do_deed(("rule", ("left", 0))), 0)
        self.exactly((desk.made, desk.position), ((), (rules.start, rules.side, 0)))
        self.exactly(desk.do_deed(("rule", ("left", 3))), 0)

    def test_an_edit_drops_a_cut_engine(self):
        desk = self.desk()
        for deed in (("ask", 2), ("cut",), ("rule", ("last", 1, 0))):
            desk.do_deed(deed)
        self.exactly((desk.going, desk.saved), (None, None))
        self.refuse(desk, NotCut, {}, ("go on",))

    def test_a_move_gone_takes_all_behind_it_along(self):
        for rules in lively_games(4, 12, 60):
            rules = rules[0]
            desk = Desk(set_lattice(2), rules)
            while own_next(desk.rules, desk.position):
                desk.do_deed(("move", 0))
            made = desk.made
            for number in range(len(rules.moves)):
                trial = copy.deepcopy(desk)
                told = trial.do_deed(("rule", ("drop move", number)))
                self.exactly((told, trial.made), (len(trial.made), made[:told]))
                if told < len(made):
                    position = trial.position
                    self.assertTrue(own_end(trial.rules, position) is not None
                                    or made[told] not in own_moves(trial.rules, position))


class TestTrials(Case):
    def test_in_every_lattice(self):
        refusals = 0
        for lattice in LATTICES:
            draw = random.Random(lattice.size)
            desk = Desk(lattice, GAMES[lattice.size][0])
            for _ in range(12):
                # Deeds that fit the desk as it comes to be on a twin.
                twin, deeds, tolds, refused = copy.deepcopy(desk), [], [], None
                for number in range(draw.randrange(6)):
                    deeds.append(random_deed(draw, twin, lattice))
                    if refused is None:
                        try:
                            tolds.append(twin.do_deed(deeds[-1]))
                        except WorthError:
                            refused = number
                            refusals += 1
                before, rules = state_of(desk), desk.rules
                trial = desk.trial_deeds(draw.choice((deeds, tuple(deeds))))
                self.assertIsInstance(trial, Trial)
                self.exactly((trial.tolds, trial.refused), (tuple(tolds), refused))
                self.exactly(state_of(desk), before)
                self.assertIs(desk.rules, rules)
                try:
                    desk.do_deed(random_deed(draw, desk, lattice))
                except WorthError:
                    pass
        self.assertTrue(refusals > 10)

    def test_examples(self):
        desk = Desk(set_lattice(2), GAMES[4][0])
        worth = Plain(desk.lattice).worth_of(own_shape(desk.rules, desk.position))
        self.assertEqual(desk.trial_deeds(()), Trial((), None))
        self.assertEqual(desk.trial_deeds([("worth",)]), Trial((worth,), None))
        self.exactly((desk.seen, desk.log), ((), ()))
        self.assertEqual(desk.trial_deeds([("worth",), ("back",), ("worth",)]), Trial((worth,), 1))
        for bad in (None, ("jump",), ("move", True), ("rule", ("left", 9)), ("prime", 0)):
            self.assertEqual(desk.trial_deeds((bad, ("worth",))), Trial((), 0))
        desk.do_deed(("ask", 3))
        going = desk.going
        trial = desk.trial_deeds((("cut",), ("go on",), ("rule", ("left", 1)), ("move", 0), ("cut",)))
        self.exactly((trial.tolds[0], trial.refused), (state_text(going), 4))
        self.exactly((desk.going, desk.saved, len(desk)), (going, None, 1))

    def test_a_result(self):
        self.assertEqual(Trial((1,), None), Trial((1,), None))
        for other in (Trial((2,), None), Trial((1,), 0), ((1,), None), None):
            self.assertNotEqual(Trial((1,), None), other)
        things = [object(), [1]]
        self.assertIs(Trial(*things).tolds, things[0])
        self.assertIs(Trial(*things).refused, things[1])


class TestOneWorth(Case):
    def test_a_lattice_of_one_worth(self):
        rules = changed(plain_rules(), worths=1, ends=(), last=(0, 0, 0))
        desk = Desk(chain_lattice(1), rules)
        self.exactly(desk.do_deed(("worth",)), 0)
        self.exactly(desk.do_deed(("hands", 2, 2, ())), ((), 0))
        self.exactly(desk.do_deed(("ask", 5)), ((), 0))
        self.exactly(desk.going, ((0, 0), (), (), 0))
        self.refused(Finished, {}, desk.do_deed, ("ask", 5))
        self.exactly(desk.do_deed(("cut",)), "cut 1\ncontext 0 0\nasked\ntold 0\n")
        self.exactly(desk.do_deed(("go on",)), ())
        self.refused(NotPrime, {"worth": 0}, desk.do_deed, ("prime", 0))
        self.exactly(desk.do_deed(("certificate", "ceiling")), (0, ()))

    def test_diamonds_too(self):
        desk = Desk(diamond_lattice(), GAMES[5][1])
        for prime in range(5):
            self.refused(NotPrime, {"worth": prime}, desk.do_deed, ("prime", prime))
