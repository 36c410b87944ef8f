"""Searches through games with a memory, and the judge of memories [10.8], [10.9]."""

import random

from cutworths.contexts import agree_under
from cutworths.cutting import cut_search
from cutworths.errors import BadContext
from cutworths.kepts import Looked, memory_fault, memory_search
from cutworths.making import chain_lattice, pentagon_lattice, set_lattice
from cutworths.memory import Memory
from cutworths.spans import Spans, span_of
from cutworths.trees import Tree
from tests.base import Case
from tests.edges import PLAYS_4000, POSITIONS_401, game
from tests.games import lively_games, own_next, own_shape, own_worth, plain_rules
from tests.growing import DISTRIBUTIVE, LATTICES, Plain, leaf_rows
from tests.test_spans import BAD_CONTEXTS

GAMES = {lattice.size: lively_games(lattice.size, 8, 120, 8, min(3, lattice.size)) for lattice in LATTICES}


class OwnSearch:
    """The search of [10.8], with a memory of its own."""

    def __init__(self, plain, rules, memory):
        self.plain, self.rules, self.memory = plain, rules, memory
        self.asked, self.served = [], []

    def start(self, position, context):
        told = self.go(position, (), context) if self.plain.parts(context) else self.plain.bottom
        return (told, tuple(self.asked), tuple(self.served))

    def go(self, position, road, context):
        worth = own_worth(self.rules, position)
        if worth is not None:
            self.asked.append(road)
            return worth
        worth = None if self.memory is None else self.memory.look_up(position, context)
        if worth is not None:
            self.served.append(road)
            return worth
        sign = ("joins", "meets")[position[1]]
        worth = self.plain.start(sign)
        for at, behind in enumerate(own_next(self.rules, position)):
            inner = self.plain.inside(sign, context, worth)
            if self.plain.parts(inner):
                worth = self.plain.take(sign, worth, self.go(behind, road + (at,), inner))
        if self.memory is not None:
            self.memory.keep_look(position, context, worth)
        return worth


def worth_at(plain, rules, position):
    """The plain worth of a position."""
    return plain.worth_of(own_shape(rules, position))


def all_positions(rules, start):
    """All positions of a game, each once."""
    found, waiting = [], [start]
    while waiting:
        position = waiting.pop()
        if position not in found:
            found.append(position)
            waiting.extend(own_next(rules, position))
    return found


def memories(lattice):
    """Makers of memories of many kinds."""
    made = [lambda: Memory(lattice, 400), lambda: Memory(lattice, 2), lambda: Memory(lattice, 3, rule="never"),
            lambda: Memory(lattice, 4, rule="by draw", picks=(3, 1, 2, 0, 7) * 5), lambda: Memory(lattice, 0)]
    return made + ([lambda: Spans(lattice)] if lattice in DISTRIBUTIVE else [])


def kept_in(memory):
    return memory.span_rows if isinstance(memory, Spans) else memory.looks


class TestSearch(Case):
    def test_by_the_rules_in_every_lattice(self):
        for lattice in LATTICES:
            plain = Plain(lattice)
            draw = random.Random(lattice.size)
            for rules, start in GAMES[lattice.size][:5]:
                for make in [lambda: None] + memories(lattice):
                    memory, own = make(), make()
                    contexts = [(plain.bottom, plain.top)] + draw.choices(plain.contexts(), k=4)
                    for context in contexts:
                        place = draw.choice([start] + all_positions(rules, start))
                        found = memory_search(lattice, rules, place, draw.choice((context, list(context))), memory)
                        self.exactly((found.worth, found.asked, found.served),
                                     OwnSearch(plain, rules, own).start(place, context))
                        if memory is not None:
                            self.exactly(kept_in(memory), kept_in(own))

    def test_without_a_memory_it_is_the_search_of_the_tree(self):
        for lattice in LATTICES:
            plain = Plain(lattice)
            for rules, start in GAMES[lattice.size]:
                shape = own_shape(rules, start)
                roads = [road for road, _ in leaf_rows(shape)]
                for context in ((plain.bottom, plain.top), (plain.bottom, lattice.size // 2)):
                    found = memory_search(lattice, rules, start, context)
                    cut = cut_search(lattice, Tree(shape), context)
                    self.exactly((found.worth, found.asked, found.served),
                                 (cut.worth, tuple(roads[leaf] for leaf in cut.asked), ()))

    def test_a_position_that_is_over(self):
        rules, lattice = plain_rules(), set_lattice(2)
        over = (("", "", "dot", "ant"), 0, 2)
        memory = Memory(lattice, 9)
        memory.keep_look(over, (0, 3), 1)
        self.exactly(vars(memory_search(lattice, rules, over, (0, 3), memory)), {"worth": 3, "asked": ((),), "served": ()})
        self.exactly(memory.looks, ((over, (0, 3), 1),))
        self.exactly(vars(memory_search(lattice, rules, over, (3, 3), memory)), {"worth": 0, "asked": (), "served": ()})

    def test_a_context_that_does_not_hang(self):
        rules, lattice = plain_rules(), set_lattice(2)
        start = (("dot", "", "", "ant"), 0, 2)
        memory = Memory(lattice, 9)
        memory.keep_look(start, (0, 3), 2)
        for context in ((1, 1), [3, 2], (1, 0)):
            self.exactly(vars(memory_search(lattice, rules, start, context, memory)), {"worth": 0, "asked": (), "served": ()})
        self.exactly(len(memory), 1)
        self.exactly(vars(memory_search(lattice, rules, start, (0, 1), memory)), {"worth": 2, "asked": (), "served": ((),)})

    def test_an_empty_memory_is_fed(self):
        rules, start = GAMES[4][0]
        for memory in (Memory(set_lattice(2), 400), Spans(set_lattice(2))):
            memory_search(set_lattice(2), rules, start, (0, 3), memory)
            self.assertGreater(len(memory), 1)
            self.exactly(kept_in(memory)[-1][0], start)
            again = memory_search(set_lattice(2), rules, start, (0, 3), memory)
            self.exactly((again.asked, again.served), ((), ((),)))

    def test_bad_contexts(self):
        rules, lattice = plain_rules(), set_lattice(2)
        for bad in BAD_CONTEXTS:
            for start in ((("dot", "", "", "ant"), 0, 2), (("", "", "dot", "ant"), 0, 2)):
                self.refused(BadContext, {}, memory_search, lattice, rules, start, bad)
                self.refused(BadContext, {}, memory_search, lattice, rules, start, bad, Memory(lattice, 3))

    def test_many_plays(self):
        rules, start = game(PLAYS_4000)
        lattice = set_lattice(2)
        alone = memory_search(lattice, rules, start, (0, 3))
        helped = memory_search(lattice, rules, start, (0, 3), Spans(lattice))
        self.exactly(alone.worth, helped.worth)
        self.assertLess(len(helped.asked), len(alone.asked))


class TestFault(Case):
    def test_looks_in_every_lattice(self):
        for lattice in LATTICES:
            plain = Plain(lattice)
            draw = random.Random(lattice.size)
            for rules, start in GAMES[lattice.size][:4]:
                places = all_positions(rules, start)
                self.exactly(memory_fault(lattice, rules, Memory(lattice, 9)), None)
                for wrong in (0, 0.1, 0.5):
                    memory = Memory(lattice, 12)
                    faults = []
                    for _ in range(12):
                        place, context = draw.choice(places), draw.choice(plain.contexts())
                        told = worth_at(plain, rules, place)
                        if draw.random() < wrong:
                            told = draw.randrange(lattice.size)
                        memory.keep_look(place, context, told)
                    for at, (place, context, told) in enumerate(memory.looks):
                        if plain.led(context, told) != plain.led(context, worth_at(plain, rules, place)):
                            faults.append(at)
                    before = memory.looks
                    self.exactly(memory_fault(lattice, rules, memory), faults[0] if faults else None)
                    self.exactly(memory.looks, before)

    def test_spans(self):
        for lattice in DISTRIBUTIVE:
            plain = Plain(lattice)
            draw = random.Random(lattice.size)
            for rules, start in GAMES[lattice.size][:4]:
                places = all_positions(rules, start)
                self.exactly(memory_fault(lattice, rules, Spans(lattice)), None)
                for wrong in (0, 0.2, 0.6):
                    spans = Spans(lattice)
                    for place in draw.sample(places, min(8, len(places))):
                        told = worth_at(plain, rules, place)
                        if draw.random() < wrong:
                            told = draw.randrange(lattice.size)
                        spans.keep_look(place, draw.choice(plain.contexts()), told)
                    faults = [at for at, (place, (low, high)) in enumerate(spans.span_rows)
                              if not plain.table[low][worth_at(plain, rules, place)]
                              or not plain.table[worth_at(plain, rules, place)][high]]
                    self.exactly(memory_fault(lattice, rules, spans), faults[0] if faults else None)

    def test_examples(self):
        rules, lattice = plain_rules(), set_lattice(2)
        over = (("", "", "dot", "ant"), 0, 2)
        other = (("", "dot", "", "ant"), 0, 0)
        self.exactly((own_worth(rules, over), own_worth(rules, other)), (3, 0))
        memory = Memory(lattice, 9)
        memory.keep_look(over, (0, 3), 3)
        memory.keep_look(other, (0, 1), 2)
        self.exactly(memory_fault(lattice, rules, memory), None)
        memory.keep_look(other, (0, 2), 2)
        memory.keep_look(over, (0, 3), 0)
        self.exactly(memory_fault(lattice, rules, memory), 2)
        for worth, fault in ((3, None), (1, 1)):
            spans = Spans(lattice)
            spans.keep_look(other, (0, 3), 0)
            spans.keep_look(over, (0, 3), worth)
            self.exactly(memory_fault(lattice, rules, spans), fault)
        spans = Spans(lattice)
        spans.keep_look(other, (0, 1), 1)
        self.exactly((span_of(lattice, (0, 1), 1), memory_fault(lattice, rules, spans)), ((1, 3), 0))

    def test_more_positions_than_a_web_holds(self):
        rules, start = game(POSITIONS_401)
        lattice = chain_lattice(4)
        memory = Memory(lattice, 1)
        worth = memory_search(lattice, rules, start, (0, 3)).worth
        memory.keep_look(start, (0, 3), worth)
        self.exactly(memory_fault(lattice, rules, memory), None)
        memory.keep_look(start, (0, 3), (worth + 1) % 4)
        self.exactly(memory_fault(lattice, rules, memory), 0)


class TestInDistributiveLattices(Case):
    def test_what_is_told_agrees_and_memories_stay_right(self):
        for lattice in DISTRIBUTIVE:
            plain = Plain(lattice)
            draw = random.Random(lattice.size)
            for rules, start in GAMES[lattice.size][:5]:
                places = all_positions(rules, start)
                for make in memories(lattice):
                    memory = make()
                    for _ in range(6):
                        place, context = draw.choice([start] + places), draw.choice(plain.contexts())
                        alone = memory_search(lattice, rules, place, context)
                        found = memory_search(lattice, rules, place, context, memory)
                        worth = worth_at(plain, rules, place)
                        self.exactly(agree_under(lattice, context, found.worth, worth), True)
                        self.exactly(memory_fault(lattice, rules, memory), None)
                        self.exactly(found.asked, tuple(road for road in alone.asked
                                                        if not any(road[:len(way)] == way for way in found.served)))
                        if len(memory) and draw.random() < 0.5:
                            memory.forget_look(draw.randrange(len(memory)))


class TestLooked(Case):
    def test_a_result(self):
        looked = Looked(1, ((0,),), ((1,),))
        self.assertEqual(looked, Looked(1, ((0,),), ((1,),)))
        for other in (Looked(0, ((0,),), ((1,),)), Looked(1, (), ((1,),)), Looked(1, ((0,),), ()), (1, ((0,),), ((1,),)),
                      None):
            self.assertNotEqual(looked, other)
        things = [object(), [1], {}]
        for thing, name in zip(things, ("worth", "asked", "served")):
            self.assertIs(getattr(Looked(*things), name), thing)

    def test_pentagons_have_memories_too(self):
        rules, start = GAMES[5][0]
        memory = Memory(pentagon_lattice(), 9)
        found = memory_search(pentagon_lattice(), rules, start, (0, 4), memory)
        self.exactly(vars(found), vars(memory_search(pentagon_lattice(), rules, start, (0, 4), Memory(pentagon_lattice(), 9))))
