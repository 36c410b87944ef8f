"""Memories of looks [10.1] to [10.4], [10.7]."""

import itertools
import random

from cutworths.contexts import serves
from cutworths.errors import BadContext, BadMemory, NoLook, NoWorth
from cutworths.making import pentagon_lattice, set_lattice
from cutworths.memory import Memory
from tests.base import NO_NUMBERS, NO_SEQUENCES, Case, spreads
from tests.growing import LATTICES, SMALL, Plain
from tests.test_spans import BAD_CONTEXTS, position


class TestMemory(Case):
    def test_attributes(self):
        lattice = set_lattice(2)
        memory = Memory(lattice, 3)
        self.assertIs(memory.lattice, lattice)
        self.exactly((memory.room, memory.rule, memory.looks, len(memory)), (3, "newest", (), 0))
        picks = [4, 0]
        memory = Memory(lattice, 400, rule="by draw", picks=picks)
        self.exactly((memory.room, memory.rule, memory.looks, len(memory)), (400, "by draw", (), 0))
        self.exactly(picks, [4, 0])

    def test_rule_and_picks_are_passed_by_name(self):
        with self.assertRaises(TypeError):
            Memory(set_lattice(2), 3, "newest")

    def test_bad_memories(self):
        lattice = set_lattice(2)
        for room in (-1, 401, 10 ** 20) + NO_NUMBERS:
            self.refused(BadMemory, {"what": "room"}, Memory, lattice, room)
            self.refused(BadMemory, {"what": "room"}, Memory, lattice, room, rule="old", picks=None)
        for rule in ("", "old", "Newest", "eldest", None, 0, True, b"newest", ("newest",), ["never"], {"never": 1}):
            self.refused(BadMemory, {"what": "rule"}, Memory, lattice, 0, rule=rule)
            self.refused(BadMemory, {"what": "rule"}, Memory, lattice, 0, rule=rule, picks=None)
        for rule in ("newest", "never", "by draw"):
            for picks in NO_SEQUENCES + ((-1,), [0, True], (0, None), (1.0,), ("1",)):
                self.refused(BadMemory, {"what": "picks"}, Memory, lattice, 400, rule=rule, picks=picks)
            self.exactly(len(Memory(lattice, 0, rule=rule, picks=[10 ** 30, 0])), 0)

    def run_memory(self, lattice, room, rule, picks, draw):
        """Do the same to a memory and to a list kept by the rules of [10.3]."""
        memory = Memory(lattice, room, rule=rule, picks=list(picks))
        own, left = [], list(picks)
        for _ in range(60):
            look = (position(draw.randrange(3)), (draw.randrange(lattice.size), draw.randrange(lattice.size)),
                    draw.randrange(min(2, lattice.size)))
            if own and draw.random() < 0.15:
                at = draw.randrange(len(own))
                self.exactly(memory.forget_look(at), own.pop(at))
            elif look in own or room == 0:
                self.exactly(memory.keep_look(*look), False)
            elif len(own) < room:
                own.append(look)
                self.exactly(memory.keep_look(look[0], list(look[1]), look[2]), True)
            elif rule == "never":
                self.exactly(memory.keep_look(*look), False)
            else:
                own.pop(left.pop(0) % room if rule == "by draw" and left else 0)
                own.append(look)
                self.exactly(memory.keep_look(*look), True)
            self.exactly(memory.looks, tuple(own))
            self.exactly(len(memory), len(own))

    def test_rules_and_rooms(self):
        for lattice in LATTICES[1:4] + [pentagon_lattice(), set_lattice(2)]:
            draw = random.Random(lattice.size)
            for room, rule in itertools.product((0, 1, 2, 3, 7, 400), ("newest", "never", "by draw")):
                for picks in ((), (1,), tuple(draw.randrange(100) for _ in range(12)), (10 ** 30,) * 40):
                    self.run_memory(lattice, room, rule, picks, draw)

    def test_the_most_room(self):
        memory = Memory(set_lattice(2), 400)
        looks = [((("dot",), 0, number), (0, 3), 1) for number in range(402)]
        for look in looks:
            self.exactly(memory.keep_look(*look), True)
        self.exactly(memory.looks, tuple(looks[2:]))

    def test_by_draw(self):
        memory = Memory(set_lattice(2), 3, rule="by draw", picks=(1, 5))
        places = [position(number) for number in range(7)]
        for place in places[:3]:
            memory.keep_look(place, (0, 3), 0)
        order = []
        for place in places[3:]:
            memory.keep_look(place, (0, 3), 0)
            # What is held already uses no pick.
            self.exactly(memory.keep_look(place, [0, 3], 0), False)
            order.append([places.index(look[0]) for look in memory.looks])
        self.exactly(order, [[0, 2, 3], [0, 2, 4], [2, 4, 5], [4, 5, 6]])

    def test_no_room_uses_no_pick(self):
        memory = Memory(set_lattice(2), 0, rule="by draw", picks=(1, 2))
        self.exactly(memory.keep_look(position(1), (0, 3), 0), False)
        self.exactly((memory.looks, memory.look_up(position(1), (0, 3))), ((), None))

    def test_picks_are_copied(self):
        picks = [2]
        memory = Memory(set_lattice(2), 3, rule="by draw", picks=picks)
        picks[0] = 0
        for number in range(4):
            memory.keep_look(position(number), (0, 3), 0)
        self.exactly([look[0] for look in memory.looks], [position(0), position(1), position(3)])

    def test_contexts_are_copied(self):
        memory, context = Memory(set_lattice(2), 3), [0, 3]
        memory.keep_look(position(1), context, 2)
        context[1] = 0
        self.exactly(memory.looks, ((position(1), (0, 3), 2),))


class TestLookUp(Case):
    def test_the_eldest_look_that_serves(self):
        for lattice in LATTICES:
            plain = Plain(lattice)
            draw = random.Random(lattice.size)
            memory = Memory(lattice, 30)
            for _ in range(40):
                memory.keep_look(position(draw.randrange(3)), draw.choice(plain.contexts()), draw.randrange(lattice.size))
            for _ in range(60):
                place, wanted = position(draw.randrange(4)), draw.choice(plain.contexts())
                found = [worth for known, kept, worth in memory.looks
                         if known == place and serves(lattice, kept, wanted) is None]
                self.exactly(memory.look_up(place, wanted), found[0] if found else None)
                self.exactly(memory.look_up(place, list(wanted)), found[0] if found else None)

    def test_served_exactly_where_it_is_right(self):
        for lattice in SMALL:
            if not spreads(lattice.table):
                continue
            plain = Plain(lattice)
            for kept, wanted in itertools.product(plain.contexts(), repeat=2):
                memory = Memory(lattice, 1)
                memory.keep_look(position(1), kept, 0)
                right = all(plain.led(wanted, x) == plain.led(wanted, y) for x in plain.worths for y in plain.worths
                            if plain.led(kept, x) == plain.led(kept, y))
                self.exactly(memory.look_up(position(1), wanted), 0 if right else None)

    def test_a_position_is_known_by_all_its_parts(self):
        memory = Memory(set_lattice(2), 9)
        memory.keep_look((("dot", ""), 0, 3), (0, 3), 2)
        for other in ((("dot", ""), 1, 3), (("dot", ""), 0, 2), (("", "dot"), 0, 3)):
            self.exactly(memory.look_up(other, (0, 3)), None)
        self.exactly(memory.look_up((("dot", ""), 0, 3), (0, 3)), 2)


class TestRefusals(Case):
    def test_contexts_and_worths(self):
        memory = Memory(set_lattice(2), 2)
        memory.keep_look(position(1), (0, 3), 1)
        for bad in BAD_CONTEXTS:
            self.refused(BadContext, {}, memory.keep_look, position(1), bad, 9)
            self.refused(BadContext, {}, memory.look_up, position(1), bad)
            self.refused(BadContext, {}, Memory(set_lattice(2), 0).keep_look, position(1), bad, 9)
        for worth in (-1, 4) + NO_NUMBERS:
            self.refused(NoWorth, {"worth": worth}, memory.keep_look, position(1), (0, 3), worth)
        self.exactly(memory.looks, ((position(1), (0, 3), 1),))

    def test_no_look(self):
        memory = Memory(set_lattice(2), 2)
        self.refused(NoLook, {"at": 0}, memory.forget_look, 0)
        memory.keep_look(position(1), (0, 3), 1)
        for at in (-1, 1, 10 ** 20) + NO_NUMBERS:
            self.refused(NoLook, {"at": at}, memory.forget_look, at)
        self.exactly(memory.forget_look(0), (position(1), (0, 3), 1))
        self.exactly((memory.looks, len(memory)), ((), 0))
