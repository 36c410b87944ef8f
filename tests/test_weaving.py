"""Weavings [12.6] to [12.9]."""

import copy
import random

from cutworths.errors import BadDepth, BadHand, BadHands, BadPicks, Idle, TooMany
from cutworths.grounds import GameGround, TreeGround
from cutworths.kepts import memory_fault
from cutworths.making import chain_lattice, diamond_lattice, set_lattice
from cutworths.memory import Memory
from cutworths.spans import Spans
from cutworths.trees import Tree
from cutworths.weaving import Weaving, woven_by
from tests.base import NO_NUMBERS, NO_SEQUENCES, Case
from tests.edges import PLAYS_4000, game
from tests.games import lively_games, plain_rules
from tests.growing import DISTRIBUTIVE, LATTICES, Plain
from tests.test_engine import kept_in, memories
from tests.test_hands import OwnPool
from tests.views import GameView, OwnSteps, node_at, plain_at, some_views

EXAMPLE = ("joins", (("meets", (1, 3)), ("meets", (2, 3))))


class Part:
    """A view of a ground from one of its nodes on."""

    def __init__(self, view, root):
        self.view, self.root = view, root

    def __getattr__(self, name):
        return getattr(self.view, name)


class OwnWeaving:
    """A weaving by [12.6] and [12.7]."""

    def __init__(self, plain, view, depth, hands, memory):
        self.plain, self.view, self.memory = plain, view, memory
        self.pool = OwnPool(plain, view, depth)
        self.hands = [None] * hands
        self.asked = []

    def turn(self, hand):
        if self.hands[hand] is None:
            job = self.pool.take(hand)
            if job is None:
                return ("rest",)
            number, _, road, context = job
            part = Part(self.view, node_at(self.view, road))
            self.hands[hand] = (number, road, OwnSteps(self.plain, part, context, self.memory))
            return ("take", number, road)
        number, road, steps = self.hands[hand]
        if steps.told is not None:
            self.hands[hand] = None
            return ("give", number, steps.told, self.pool.give(number, steps.told))
        event = steps.step()
        whole = road + event[1]
        if event[0] == "ask":
            self.asked.append(whole)
        return ("step", number, (event[0], whole) + event[2:])

    def leave(self, hand):
        number = self.hands[hand][0]
        self.pool.stand(number, "dropped")
        self.hands[hand] = None
        return number

    def state(self):
        return (tuple(self.asked), self.pool.known(), tuple(self.pool.jobs), self.pool.hanging(),
                self.pool.hanging() == ())


def state_of(weaving):
    """What can be seen of a weaving and its pool."""
    pool = weaving.pool
    return (weaving.asked, pool.known, pool.jobs, pool.hanging_spots(), weaving.is_done)


def whole_state(weaving):
    """All that can be seen of a weaving and its pool."""
    pool = weaving.pool
    roads = [pool.upper.road_of(node) for node in range(len(pool.upper.nodes))]
    return (state_of(weaving), pool.spots, pool.upper.shape, pool.is_done, weaving.woven_worth(),
            [(pool.spot_bounds(road), pool.spot_context(road)) for road in roads])


class TestTurns(Case):
    def follow(self, draw, weaving, own, turns):
        """Turn both alike and compare what they tell."""
        for _ in range(turns):
            hand = draw.randrange(len(own.hands))
            if own.hands[hand] is not None and draw.random() < 0.06:
                self.exactly(weaving.leave_job(hand), own.leave(hand))
            else:
                if own.hands[hand] is None and draw.random() < 0.2:
                    self.refused(Idle, {"hand": hand}, weaving.leave_job, hand)
                self.exactly(weaving.turn_hand(hand), own.turn(hand))
            self.exactly(state_of(weaving), own.state())
            self.exactly(weaving.is_done, weaving.pool.is_done)
            low = weaving.pool.spot_bounds(())[0]
            self.exactly(weaving.woven_worth(), low if weaving.is_done else None)

    def test_in_every_lattice(self):
        for lattice in LATTICES:
            plain, draw = Plain(lattice), random.Random(lattice.size)
            for view in some_views(lattice, "weaving", 5):
                depth, hands = draw.randrange(4), draw.randint(1, 4)
                weaving = Weaving(lattice, view.ground(), depth, hands)
                self.follow(draw, weaving, OwnWeaving(plain, view, depth, hands, None), 60)

    def test_with_memories(self):
        for lattice in LATTICES:
            plain, draw = Plain(lattice), random.Random(lattice.size)
            for rules, start in lively_games(lattice.size, 1, 60, 6, min(3, lattice.size)):
                for make in memories(lattice):
                    memory, own = make(), make()
                    depth, hands = draw.randrange(1, 4), draw.randint(1, 4)
                    weaving = Weaving(lattice, GameGround(rules, start), depth, hands, memory)
                    self.follow(draw, weaving, OwnWeaving(plain, GameView(rules, start), depth, hands, own), 80)
                    self.exactly(kept_in(memory), kept_in(own))

    def test_example(self):
        weaving = Weaving(set_lattice(2), TreeGround(Tree(EXAMPLE)), 1, 2)
        self.exactly((weaving.asked, weaving.is_done, weaving.woven_worth()), ((), False, None))
        self.exactly([weaving.turn_hand(hand) for hand in (0, 1)], [("take", 0, (0,)), ("take", 1, (1,))])
        self.exactly([weaving.turn_hand(1) for _ in range(5)],
                     [("step", 1, ("in", (1,))), ("step", 1, ("ask", (1, 0), 2)), ("step", 1, ("ask", (1, 1), 3)),
                      ("step", 1, ("back", (1,), 2)), ("give", 1, 2, True)])
        self.exactly((weaving.asked, weaving.pool.spot_bounds(())), (((1, 0), (1, 1)), (2, 3)))
        self.exactly(weaving.turn_hand(1), ("rest",))
        self.exactly([weaving.turn_hand(0) for _ in range(5)][-1], ("give", 0, 1, True))
        self.exactly((weaving.asked, weaving.is_done, weaving.woven_worth()), (((1, 0), (1, 1), (0, 0), (0, 1)), True, 3))
        self.exactly([weaving.turn_hand(0), weaving.turn_hand(1)], [("rest",)] * 2)

    def test_turns_behind_the_end(self):
        lattice = chain_lattice(3)
        weaving = Weaving(lattice, TreeGround(Tree(("joins", (("meets", (1, 2)), 2)))), 1, 2)
        weaving.turn_hand(0)
        for _ in range(3):
            weaving.turn_hand(1)
        self.exactly((weaving.is_done, weaving.woven_worth()), (True, 2))
        # The other hand goes on with what it does in the context that it had.
        events = [weaving.turn_hand(0) for _ in range(6)]
        self.exactly(events, [("step", 0, ("in", (0,))), ("step", 0, ("ask", (0, 0), 1)), ("step", 0, ("ask", (0, 1), 2)),
                              ("step", 0, ("back", (0,), 1)), ("give", 0, 1, True), ("rest",)])
        self.exactly((weaving.asked, weaving.pool.known), (((1,), (0, 0), (0, 1)), (((0,), 1), ((1,), 2))))

    def test_left_jobs(self):
        weaving = Weaving(set_lattice(2), TreeGround(Tree(EXAMPLE)), 1, 2)
        for hand in (0, 1, 0, 0):
            weaving.turn_hand(hand)
        self.exactly(weaving.leave_job(0), 0)
        self.exactly(weaving.pool.jobs[0], (0, (0,), (0, 3), "dropped"))
        self.refused(Idle, {"hand": 0}, weaving.leave_job, 0)
        # What the engine knew is forgotten.
        self.exactly([weaving.turn_hand(0) for _ in range(3)],
                     [("take", 2, (0,)), ("step", 2, ("in", (0,))), ("step", 2, ("ask", (0, 0), 1))])
        self.exactly(weaving.asked, ((0, 0), (0, 0)))

    def test_refusals(self):
        lattice, ground = set_lattice(2), TreeGround(Tree(EXAMPLE))
        wide = TreeGround(Tree(("joins", (1,) * 401)))
        for hands in (0, 5, -1, 10 ** 20) + NO_NUMBERS:
            self.refused(BadHands, {"hands": hands}, Weaving, lattice, ground, 1, hands)
            self.refused(BadHands, {"hands": hands}, Weaving, lattice, ground, -1, hands)
            self.refused(BadHands, {"hands": hands}, woven_by, lattice, wide, 1, hands, None)
        for depth in (-1, 41) + NO_NUMBERS:
            self.refused(BadDepth, {"depth": depth}, Weaving, lattice, wide, depth, 1)
            self.refused(BadDepth, {"depth": depth}, woven_by, lattice, wide, depth, 1, None)
        self.refused(TooMany, {"most": 400}, Weaving, lattice, wide, 1, 4)
        self.refused(TooMany, {"most": 400}, woven_by, lattice, wide, 1, 4, None)
        weaving = Weaving(lattice, ground, 1, 2)
        weaving.turn_hand(1)
        before = whole_state(weaving)
        for hand in (-1, 2, 10 ** 20) + NO_NUMBERS:
            self.refused(BadHand, {"hand": hand}, weaving.turn_hand, hand)
            self.refused(BadHand, {"hand": hand}, weaving.leave_job, hand)
        self.exactly(whole_state(weaving), before)
        for hands in (1, 2, 3, 4):
            weaving = Weaving(lattice, ground, 0, hands)
            self.exactly(weaving.turn_hand(hands - 1), ("take", 0, ()))
            self.refused(BadHand, {"hand": hands}, weaving.turn_hand, hands)

    def test_one_worth_alone(self):
        weaving = Weaving(set_lattice(0), TreeGround(Tree(("joins", (0, 0)))), 1, 1)
        self.exactly((weaving.is_done, weaving.woven_worth(), weaving.turn_hand(0)), (True, 0, ("rest",)))


class TestWovenBy(Case):
    def test_the_turns(self):
        for lattice in LATTICES:
            plain, draw = Plain(lattice), random.Random(lattice.size)
            for view in some_views(lattice, "woven", 4, 1):
                depth, hands = draw.randrange(4), draw.randint(1, 4)
                picks = [draw.randrange(10 ** draw.choice((1, 1, 30))) for _ in range(draw.choice((0, 3, 20, 90)))]
                memory, own_memory = draw.choice(memories(lattice)), None
                memory, own_memory = memory(), None
                own_memory = copy.deepcopy(memory)
                own = OwnWeaving(plain, view, depth, hands, own_memory)
                for pick in picks:
                    own.turn(pick % hands)
                hand = 0
                while own.pool.hanging():
                    own.turn(hand)
                    hand = (hand + 1) % hands
                weaving = woven_by(lattice, view.ground(), depth, hands, draw.choice((picks, tuple(picks))), memory)
                self.assertIs(weaving.__class__, Weaving)
                self.exactly(state_of(weaving), own.state())
                self.exactly(weaving.woven_worth(), own.pool.asking.bounds(())[0])
                self.exactly(kept_in(memory), kept_in(own_memory))

    def test_picks(self):
        lattice, ground = set_lattice(2), TreeGround(Tree(EXAMPLE))
        for picks in NO_SEQUENCES:
            self.refused(BadPicks, {"index": -1}, woven_by, lattice, ground, 1, 2, picks)
        for pick in (-1,) + NO_NUMBERS:
            self.refused(BadPicks, {"index": 0}, woven_by, lattice, ground, 1, 2, [pick])
            self.refused(BadPicks, {"index": 2}, woven_by, lattice, ground, 1, 2, (0, 10 ** 30, pick, -1))
        memory = Memory(lattice, 5)
        self.refused(BadPicks, {"index": 1}, woven_by, lattice, GameGround(plain_rules()), 1, 2, (0, -1), memory)
        self.exactly(memory.looks, ())
        # Picks are turned though the weaving is done before.
        weaving = woven_by(lattice, ground, 1, 2, (0, 1) + (1,) * 5 + (0,) * 5 + (1, 0, 1))
        self.exactly((weaving.is_done, len(weaving.pool.jobs)), (True, 2))
        late = woven_by(chain_lattice(3), TreeGround(Tree(("joins", (("meets", (1, 2)), 2)))), 1, 2, (0, 1, 1, 1, 0, 0))
        self.exactly(late.asked, ((1,), (0, 0)))
        self.exactly(woven_by(chain_lattice(3), TreeGround(Tree(2)), 0, 4, ()).asked, ((),))

    def test_the_worth_in_distributive_lattices(self):
        for lattice in DISTRIBUTIVE:
            plain, draw = Plain(lattice), random.Random(lattice.size)
            for view in some_views(lattice, "worth", 6, 2):
                right = plain_at(plain, view, view.root)
                for make in [lambda: None] + memories(lattice)[:2] + memories(lattice)[-1:]:
                    depth, hands = draw.choice((0, 1, 2, 3, 8)), draw.randint(1, 4)
                    picks = [draw.randrange(9) for _ in range(draw.choice((0, 5, 30)))]
                    memory = make()
                    for _ in range(2):
                        self.exactly(woven_by(lattice, view.ground(), depth, hands, picks, memory).woven_worth(), right)
                        if isinstance(view, GameView) and memory is not None:
                            self.exactly(memory_fault(lattice, view.rules, memory), None)

    def test_with_left_jobs_and_old_contexts(self):
        for lattice in DISTRIBUTIVE:
            plain, draw = Plain(lattice), random.Random(lattice.size)
            for view in some_views(lattice, "old", 6, 1):
                weaving = Weaving(lattice, view.ground(), draw.randrange(1, 4), 4, Memory(lattice, 5))
                for _ in range(4000):
                    if weaving.is_done:
                        break
                    hand = draw.choice((0, 0, 0, 1, 2, 3))
                    if draw.random() < 0.03 and weaving.pool.jobs and weaving.pool.jobs[-1][0] == hand:
                        try:
                            weaving.leave_job(hand)
                        except Idle:
                            pass
                    weaving.turn_hand(hand)
                self.exactly(weaving.woven_worth(), plain_at(plain, view, view.root))

    def test_other_lattices_come_to_an_end(self):
        shape = ("meets", (1, ("joins", (2, ("meets", (3, 0))))))
        found = [woven_by(diamond_lattice(), TreeGround(Tree(shape)), depth, 1, ()).woven_worth() for depth in range(4)]
        self.exactly(found, [1, 1, 1, 0])

    def test_many_plays(self):
        rules, start = game(PLAYS_4000)
        lattice = set_lattice(2)
        alone = woven_by(lattice, GameGround(rules, start), 2, 1, ()).woven_worth()
        self.exactly(woven_by(lattice, GameGround(rules, start), 3, 4, (3, 1, 2), Spans(lattice)).woven_worth(), alone)


class TestPutAway(Case):
    def twins(self, draw, lattice, view, depth, hands, make):
        """Turn a weaving, and put it away and take it up again and again."""
        weaving = Weaving(lattice, view.ground(), depth, hands, make())
        for _ in range(40):
            before = whole_state(weaving)
            text = weaving.put_away()
            self.assertIsInstance(text, str)
            self.exactly(whole_state(weaving), before)
            self.exactly(weaving.put_away(), text)
            twin = Weaving.taken_up(lattice, view.ground(), text, copy.deepcopy(weaving.memory))
            self.exactly(whole_state(twin), before)
            self.exactly(twin.put_away(), text)
            for _ in range(draw.choice((1, 1, 2, 9))):
                hand = draw.randrange(hands)
                if draw.random() < 0.1:
                    self.exactly(self.left(weaving, hand), self.left(twin, hand))
                else:
                    self.exactly(weaving.turn_hand(hand), twin.turn_hand(hand))
                self.exactly(state_of(weaving), state_of(twin))
            if weaving.memory is not None:
                self.exactly(kept_in(weaving.memory), kept_in(twin.memory))
            weaving = draw.choice((weaving, twin))

    def left(self, weaving, hand):
        try:
            return weaving.leave_job(hand)
        except Idle as error:
            return (error.hand,)

    def test_in_every_lattice(self):
        for lattice in LATTICES:
            draw = random.Random(lattice.size)
            for view in some_views(lattice, "away", 3):
                self.twins(draw, lattice, view, draw.randrange(4), draw.randint(1, 4), lambda: None)

    def test_with_the_same_memory(self):
        for lattice in LATTICES[1:]:
            draw = random.Random(lattice.size)
            for rules, start in lively_games(lattice.size, 1, 60, 6, min(3, lattice.size)):
                for make in memories(lattice):
                    self.twins(draw, lattice, GameView(rules, start), draw.randrange(1, 4), draw.randint(1, 4), make)

    def test_with_another_memory(self):
        lattice = set_lattice(2)
        plain, draw = Plain(lattice), random.Random(1)
        for rules, start in lively_games(4, 4, 60, 8):
            view = GameView(rules, start)
            for turns in range(0, 60, 4):
                weaving = Weaving(lattice, view.ground(), 2, 3, draw.choice((None, Memory(lattice, 9))))
                for _ in range(turns):
                    weaving.turn_hand(draw.randrange(3))
                first, memory = weaving.memory, draw.choice((None, Memory(lattice, 3), Spans(lattice)))
                held = None if first is None else first.looks
                other = Weaving.taken_up(lattice, view.ground(), weaving.put_away(), memory)
                while not other.is_done:
                    other.turn_hand(draw.randrange(3))
                self.exactly(other.woven_worth(), plain_at(plain, view, start))
                self.exactly(None if first is None else first.looks, held)
                if memory is not None:
                    self.exactly(memory_fault(lattice, rules, memory), None)

    def test_another_memory_is_used_from_then_on(self):
        lattice, rules = set_lattice(2), plain_rules()
        start = (("dot", "", "", "ant"), 0, 2)
        weaving = Weaving(lattice, GameGround(rules, start), 0, 1)
        weaving.turn_hand(0)
        memory = Memory(lattice, 5)
        memory.keep_look(start, (0, 3), 0)
        served = Weaving.taken_up(lattice, GameGround(rules, start), weaving.put_away(), memory)
        self.exactly(served.turn_hand(0), ("step", 0, ("served", (), 0)))
        alone = Weaving.taken_up(lattice, GameGround(rules, start), weaving.put_away())
        self.exactly(alone.turn_hand(0), ("step", 0, ("in", ())))

    def test_a_wide_one(self):
        lattice = chain_lattice(3)
        ground = TreeGround(Tree(("joins", tuple(("meets", (1, number % 3)) for number in range(400)))))
        weaving = Weaving(lattice, ground, 1, 4)
        for turn in range(900):
            weaving.turn_hand(turn % 4)
        twin = Weaving.taken_up(lattice, ground, weaving.put_away())
        self.exactly(whole_state(twin), whole_state(weaving))
