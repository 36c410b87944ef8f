"""Engines: steps, cuts, and what is told behind them [11.3] to [11.6], [11.10], [11.11]."""

import copy
import itertools
import random

from cutworths.contexts import agree_under
from cutworths.cutting import cut_search
from cutworths.engine import Engine
from cutworths.errors import Apart, BadContext, BadCut, Ended
from cutworths.frametext import state_fault, state_text, told_fault
from cutworths.grounds import GameGround, TreeGround
from cutworths.kepts import memory_fault, memory_search
from cutworths.making import chain_lattice, pentagon_lattice, set_lattice
from cutworths.memory import Memory
from cutworths.spans import Spans
from cutworths.trees import Tree
from tests.base import Case
from tests.edges import PLAYS_4000, game
from tests.games import lively_games, plain_rules
from tests.growing import DISTRIBUTIVE, LATTICES, Plain, as_lists, leaf_rows, some_shapes
from tests.test_spans import BAD_CONTEXTS
from tests.views import GameView, OwnSteps, ShapeView, bent_state, own_run, own_state_fault, plain_at, some_views

EXAMPLE = ("joins", (("meets", (1, 3)), ("meets", (2, 3))))


def state_of(engine):
    """All that can be seen of an engine."""
    return (engine.engine_state(), (engine.context, engine.asked, engine.frames, engine.told), engine.ended)


def memories(lattice):
    """Makers of memories of many kinds."""
    made = [lambda: Memory(lattice, 400), lambda: Memory(lattice, 2), lambda: Memory(lattice, 3, rule="never"),
            lambda: Memory(lattice, 4, rule="by draw", picks=(3, 1, 2, 0, 7) * 5), lambda: Memory(lattice, 0)]
    return made + ([lambda: Spans(lattice)] if lattice in DISTRIBUTIVE else [])


def kept_in(memory):
    return memory.span_rows if isinstance(memory, Spans) else memory.looks


def some_contexts(plain, draw, many):
    return [(plain.bottom, plain.top)] + [draw.choice(plain.contexts()) for _ in range(many)]


class TestSteps(Case):
    def follow(self, engine, own):
        """Step the engine along its own steps to the end."""
        while True:
            self.exactly(state_of(engine), (own.state(), own.state(), own.told is not None))
            event = own.step()
            if event is None:
                break
            self.exactly(engine.step_once(), event)
        self.refused(Ended, {}, engine.step_once)
        self.exactly((engine.go_steps(0), engine.go_steps(5), engine.finish_all()), ((), (), own.told))
        self.exactly(state_of(engine), (own.state(), own.state(), True))

    def test_without_a_memory_in_every_lattice(self):
        for lattice in LATTICES:
            plain, draw = Plain(lattice), random.Random(lattice.size)
            for view in some_views(lattice, "steps", 8, 2):
                for context in some_contexts(plain, draw, 4):
                    engine = Engine(lattice, view.ground(), draw.choice((context, list(context))))
                    self.follow(engine, OwnSteps(plain, view, context))

    def test_with_memories_in_every_lattice(self):
        for lattice in LATTICES:
            plain, draw = Plain(lattice), random.Random(lattice.size)
            for rules, start in lively_games(lattice.size, 2, 60, 6, min(3, lattice.size)):
                view = GameView(rules, start)
                for make in memories(lattice):
                    memory, own = make(), make()
                    for context in some_contexts(plain, draw, 4):
                        engine = Engine(lattice, GameGround(rules, start), context, memory)
                        self.follow(engine, OwnSteps(plain, view, context, own))
                        self.exactly(kept_in(memory), kept_in(own))

    def test_it_is_the_search_of_trees_and_games(self):
        for lattice in LATTICES:
            plain, draw = Plain(lattice), random.Random(lattice.size)
            for shape in some_shapes(lattice, "search", 10):
                roads = [road for road, _ in leaf_rows(shape)]
                for context in some_contexts(plain, draw, 3):
                    engine = Engine(lattice, TreeGround(Tree(shape)), context)
                    found = cut_search(lattice, Tree(shape), context)
                    self.exactly(engine.finish_all(), found.worth)
                    self.exactly(engine.asked, tuple(roads[leaf] for leaf in found.asked))
            for rules, start in lively_games(lattice.size, 2, 60, 6, min(3, lattice.size)):
                for make in [lambda: None] + memories(lattice):
                    memory, other = make(), make()
                    for context in some_contexts(plain, draw, 3):
                        engine = Engine(lattice, GameGround(rules, start), context, memory)
                        events = engine.go_steps(10 ** 6)
                        found = memory_search(lattice, rules, start, context, other)
                        self.exactly((engine.told, engine.asked), (found.worth, found.asked))
                        self.exactly(tuple(event[1] for event in events if event[0] == "served"), found.served)
                        if memory is not None:
                            self.exactly(kept_in(memory), kept_in(other))

    def test_two_steps_for_each_node_and_one_for_each_end(self):
        for lattice in LATTICES[1:]:
            for shape in some_shapes(lattice, "two", 6):
                events = Engine(lattice, TreeGround(Tree(shape))).go_steps(10 ** 6)
                words = [event[0] for event in events]
                self.exactly(words.count("in"), words.count("back"))
                self.exactly(len(words), 2 * words.count("in") + words.count("ask"))

    def test_in_pieces(self):
        lattice = set_lattice(2)
        plain = Plain(lattice)
        for view in some_views(lattice, "pieces", 6, 2):
            events = [event for event, _ in own_run(plain, view, (0, 3))]
            for many in (1, 2, 3, 7, len(events), len(events) + 1):
                engine, found = Engine(lattice, view.ground()), ()
                while not engine.ended:
                    self.exactly(engine.go_steps(0), ())
                    piece = engine.go_steps(many)
                    self.assertTrue(len(piece) == many or engine.ended)
                    found += piece
                self.exactly(found, tuple(events))

    def test_the_rest(self):
        lattice = set_lattice(2)
        plain = Plain(lattice)
        for view in some_views(lattice, "rest", 6, 2):
            run = own_run(plain, view, (0, 3))
            for many in range(len(run) + 1):
                engine = Engine(lattice, view.ground())
                engine.go_steps(many)
                self.exactly(engine.finish_all(), run[-1][1][3])
                self.exactly(engine.engine_state(), run[-1][1])

    def test_a_part_of_a_tree(self):
        lattice, tree = set_lattice(2), Tree(EXAMPLE)
        engine = Engine(lattice, TreeGround(tree, 4))
        self.exactly(engine.go_steps(9), (("in", ()), ("ask", (0,), 2), ("ask", (1,), 3), ("back", (), 2)))
        self.exactly(engine.asked, ((0,), (1,)))

    def test_example(self):
        engine = Engine(set_lattice(2), TreeGround(Tree(EXAMPLE)))
        self.exactly(engine.engine_state(), ((0, 3), (), (), None))
        events = engine.go_steps(7)
        self.exactly(events, (("in", ()), ("in", (0,)), ("ask", (0, 0), 1), ("ask", (0, 1), 3), ("back", (0,), 1),
                              ("in", (1,)), ("ask", (1, 0), 2)))
        self.exactly(engine.frames, ((0, 3, 1, 1), (1, 3, 2, 1)))
        self.exactly(engine.cut_text(), "cut 1\ncontext 0 3\nasked 0.0 0.1 1.0\nframe 0 3 1 1\nframe 1 3 2 1\ngoing\n")
        self.exactly(engine.go_steps(9), (("ask", (1, 1), 3), ("back", (1,), 2), ("back", (), 3)))
        self.exactly((engine.told, engine.ended, engine.frames), (3, True, ()))

    def test_what_was_passed_and_what_is_kept(self):
        lattice, context = set_lattice(2), [0, 3]
        engine = Engine(lattice, TreeGround(Tree(EXAMPLE)), context)
        context[1] = 0
        self.exactly((engine.context, engine.finish_all()), ((0, 3), 3))

    def test_many_plays(self):
        rules, start = game(PLAYS_4000)
        lattice = set_lattice(2)
        engine = Engine(lattice, GameGround(rules, start))
        found = memory_search(lattice, rules, start, (0, 3))
        self.exactly((engine.finish_all(), engine.asked), (found.worth, found.asked))
        self.exactly(Engine.gone_on(lattice, GameGround(rules, start), engine.cut_text()).engine_state(),
                     engine.engine_state())


class TestBegin(Case):
    def test_contexts_that_do_not_hang(self):
        for lattice in LATTICES:
            plain = Plain(lattice)
            memory = Memory(lattice, 3)
            for context in plain.contexts():
                if not plain.parts(context):
                    engine = Engine(lattice, GameGround(plain_rules()), context, memory)
                    self.exactly(state_of(engine), ((context, (), (), plain.bottom),) * 2 + (True,))
                    self.refused(Ended, {}, engine.step_once)
                    self.exactly((engine.go_steps(3), engine.finish_all()), ((), plain.bottom))
            self.exactly(memory.looks, ())

    def test_no_context_is_the_root_context(self):
        for lattice in LATTICES:
            plain = Plain(lattice)
            for args in ((), (None,), (None, None)):
                engine = Engine(lattice, TreeGround(Tree(("joins", (0,)))), *args)
                self.exactly(engine.context, (plain.bottom, plain.top))
            self.exactly(Engine(lattice, TreeGround(Tree(0)), memory=None, context=[0, 0]).context, (0, 0))

    def test_bad_contexts(self):
        for bad in BAD_CONTEXTS:
            if bad is not None:
                self.refused(BadContext, {}, Engine, set_lattice(2), TreeGround(Tree(EXAMPLE)), bad)
                self.refused(BadContext, {}, Engine, set_lattice(2), GameGround(plain_rules()), bad, Memory(set_lattice(2), 2))

    def test_ends_alone(self):
        engine = Engine(set_lattice(2), TreeGround(Tree(2)))
        self.exactly((engine.engine_state(), engine.ended), (((0, 3), (), (), None), False))
        self.exactly((engine.step_once(), engine.engine_state()), (("ask", (), 2), ((0, 3), ((),), (), 2)))
        rules = plain_rules()
        over = (("", "", "dot", "ant"), 0, 2)
        memory = Memory(set_lattice(2), 4)
        memory.keep_look(over, (0, 3), 1)
        engine = Engine(set_lattice(2), GameGround(rules, over), None, memory)
        self.exactly((engine.finish_all(), engine.asked, len(memory)), (3, ((),), 1))

    def test_a_root_that_is_served(self):
        rules = plain_rules()
        start = (("dot", "", "", "ant"), 0, 2)
        for memory in (Memory(set_lattice(2), 4), Spans(set_lattice(2))):
            memory.keep_look(start, (0, 3), 0)
            before = kept_in(memory)
            engine = Engine(set_lattice(2), GameGround(rules, start), (0, 1), memory)
            self.exactly((engine.step_once(), engine.engine_state(), engine.ended),
                         (("served", (), 0), ((0, 1), (), (), 0), True))
            self.exactly(kept_in(memory), before)

    def test_trees_do_not_touch_a_memory(self):
        for memory in (Memory(set_lattice(2), 4), Spans(set_lattice(2))):
            engine = Engine(set_lattice(2), TreeGround(Tree(EXAMPLE)), None, memory)
            self.exactly((engine.finish_all(), len(memory)), (3, 0))
            memory.keep_look(None, (0, 3), 1)
            engine = Engine(set_lattice(2), TreeGround(Tree(EXAMPLE)), None, memory)
            self.exactly((engine.finish_all(), len(memory)), (3, 1))

    def test_no_equality(self):
        ground = TreeGround(Tree(EXAMPLE))
        self.assertNotEqual(Engine(set_lattice(2), ground), Engine(set_lattice(2), ground))


class TestCuts(Case):
    def test_behind_every_step(self):
        for lattice in LATTICES:
            plain, draw = Plain(lattice), random.Random(lattice.size)
            for view in some_views(lattice, "cuts", 3, 1):
                for context in some_contexts(plain, draw, 2):
                    run = own_run(plain, view, context)
                    states = [(context, (), (), None if plain.parts(context) else plain.bottom)]
                    states += [state for _, state in run]
                    engine = Engine(lattice, view.ground(), context)
                    for at, state in enumerate(states):
                        self.exactly(engine.engine_state(), state)
                        self.exactly(engine.cut_text(), state_text(state))
                        engine = Engine.gone_on(lattice, view.ground(), engine.cut_text())
                        self.exactly(state_of(engine), (state, state, state[3] is not None))
                        other = Engine.resumed(lattice, view.ground(), draw.choice((state, as_lists(state))))
                        self.exactly(state_of(other), state_of(engine))
                        self.exactly(other.go_steps(4), tuple(event for event, _ in run[at:at + 4]))
                        self.exactly(engine.go_steps(1), tuple(event for event, _ in run[at:at + 1]))

    def test_with_a_memory_behind_every_step(self):
        for lattice in LATTICES[1:]:
            plain, draw = Plain(lattice), random.Random(lattice.size)
            for rules, start in lively_games(lattice.size, 1, 40, 6, min(3, lattice.size)):
                for make in memories(lattice):
                    memory, own = make(), make()
                    for context in some_contexts(plain, draw, 1):
                        run = own_run(plain, GameView(rules, start), context, own)
                        engine = Engine(lattice, GameGround(rules, start), context, memory)
                        for event, state in run:
                            self.exactly(engine.step_once(), event)
                            self.exactly(engine.engine_state(), state)
                            engine = Engine.gone_on(lattice, GameGround(rules, start), engine.cut_text(), memory)
                        self.exactly(engine.ended, True)
                        self.exactly(kept_in(memory), kept_in(own))

    def test_copies(self):
        lattice, ground = set_lattice(2), TreeGround(Tree(EXAMPLE))
        state = [[0, 3], [[0, 0]], [[0, 3, 0, 0], [0, 3, 1, 1]], None]
        engine = Engine.resumed(lattice, ground, state)
        kept = engine.engine_state()
        state[0][0], state[1][0][0], state[2][1][2] = 3, 1, 0
        state[2].pop()
        self.exactly(engine.engine_state(), kept)
        self.exactly(kept, ((0, 3), ((0, 0),), ((0, 3, 0, 0), (0, 3, 1, 1)), None))
        self.exactly(engine.finish_all(), 3)

    def test_refusals(self):
        lattice, ground = set_lattice(2), TreeGround(Tree(EXAMPLE))
        for state, what, at in ((((0, 4), (), (), None), "context", 0), (((0, 3), (), (), 4), "told", 0),
                                (((3, 3), (), (), None), "still", 0), (((0, 3), (), ((0, 3, 0, 3),), None), "frame", 0),
                                (((0, 3), (), ((0, 3, 0, 0), (1, 3, 0, 0)), None), "bound", 1),
                                (((0, 3), ((0,),), (), 1), "asked", 0)):
            self.refused(BadCut, {"what": what, "at": at}, Engine.resumed, lattice, ground, state)
            self.refused(BadCut, {"what": what, "at": at}, Engine.resumed, lattice, ground, state, None)
            self.refused(BadCut, {"what": what, "at": at}, Engine.gone_on, lattice, ground, state_text(state))
        for text, what, at in ((None, "text", 0), ("cut 1", "text", 0), ("cut 1\n", "rows", 1),
                               ("cut 1\ncontext 0 3\nasked\n\n", "told", 3)):
            self.refused(BadCut, {"what": what, "at": at}, Engine.gone_on, lattice, ground, text)

    def test_bent_states(self):
        for lattice in (set_lattice(2), pentagon_lattice(), chain_lattice(2)):
            plain, draw = Plain(lattice), random.Random(lattice.size)
            for view in some_views(lattice, "bent", 4, 1):
                states = [state for _, state in own_run(plain, view, (plain.bottom, plain.top))]
                for _ in range(60):
                    state = bent_state(draw, lattice, draw.choice(states))
                    fault = own_state_fault(plain, view, state)
                    if fault is None:
                        self.exactly(Engine.resumed(lattice, view.ground(), state).engine_state(), state)
                    else:
                        told = {"what": fault[0], "at": fault[1]}
                        self.refused(BadCut, told, Engine.resumed, lattice, view.ground(), state)


class TestAllOrNothing(Case):
    """A state with a worth that does not fit what the spans hold: the step back raises."""

    def engine_and_spans(self, wrong, deep=False):
        lattice, rules = set_lattice(2), plain_rules()
        start = (("dot", "", "", "ant"), 0, 2)
        spans = Spans(lattice)
        spans.keep_look(start, (0, 3), 0)
        many = len(GameGround(rules, start).children_of(start))
        frames = ((0, 3, wrong, many - 1),) + (((wrong, 3, 3, 0),) if deep else ())
        return Engine.resumed(lattice, GameGround(rules, start), ((0, 3), (), frames, None), spans), spans

    def test_a_step_that_raises_changes_nothing(self):
        engine, spans = self.engine_and_spans(2)
        raised = False
        while not raised:
            before = (state_of(engine), spans.span_rows)
            try:
                engine.step_once()
            except Apart as error:
                raised = True
                self.exactly(spans.look_up((("dot", "", "", "ant"), 0, 2), (0, 3)), 0)
                self.assertNotEqual((error.low, error.high), (0, 0))
            else:
                self.assertFalse(engine.ended)
        self.exactly((state_of(engine), spans.span_rows), before)
        self.exactly(len(engine.frames), 1)

    def test_many_steps_that_raise_change_nothing(self):
        for call in (lambda engine: engine.go_steps(100), lambda engine: engine.finish_all()):
            for deep in (False, True):
                engine, spans = self.engine_and_spans(2, deep)
                before = (state_of(engine), spans.span_rows)
                with self.assertRaises(Apart):
                    call(engine)
                self.exactly((state_of(engine), spans.span_rows), before)
                other, other_spans = self.engine_and_spans(2, deep)
                self.exactly(engine.go_steps(2), other.go_steps(2))
                self.exactly(engine.engine_state(), other.engine_state())
                self.exactly(spans.span_rows, other_spans.span_rows)


def all_states(plain, view, context):
    """All states of a small ground that go on, with every so far and every place, nothing asked."""
    found = [(context, (), (), None)]

    def grow(node, own, frames):
        if view.end(node) is not None:
            return
        children = view.children(node)
        for so_far in plain.worths:
            for at in range(len(children) + 1):
                here = frames + (own + (so_far, at),)
                found.append((context, (), here, None))
                if at < len(children):
                    inner = plain.inside(view.sign(node), own, so_far)
                    if plain.parts(inner):
                        grow(children[at], inner, here)
    if plain.parts(context):
        grow(view.root, context, ())
    return found


class TestInDistributiveLattices(Case):
    def test_no_state_of_an_engine_has_a_fault(self):
        for lattice in DISTRIBUTIVE:
            plain, draw = Plain(lattice), random.Random(lattice.size)
            for view in some_views(lattice, "faultless", 4, 1):
                right = plain_at(plain, view, view.root)
                for context, make in itertools.product(some_contexts(plain, draw, 2), [lambda: None] + memories(lattice)[:2]):
                    memory = make()
                    for _ in range(2):
                        engine = Engine(lattice, view.ground(), context, memory)
                        while not engine.ended:
                            engine.step_once()
                            self.exactly(told_fault(lattice, view.ground(), engine.engine_state()), None)
                        self.assertTrue(agree_under(lattice, context, engine.told, right))

    def test_all_states_without_fault_lead_to_right_worths(self):
        shapes = [EXAMPLE, ("meets", (("joins", (1, 2)), 3, ("joins", (0, ("meets", (1, 3))))))]
        for lattice in (set_lattice(2), chain_lattice(4)):
            plain = Plain(lattice)
            for shape in shapes:
                view = ShapeView(shape)
                right = plain_at(plain, view, shape)
                for context in plain.contexts():
                    seen = 0
                    for state in all_states(plain, view, context):
                        if told_fault(lattice, view.ground(), state) is None:
                            engine = Engine.resumed(lattice, view.ground(), state)
                            self.assertTrue(agree_under(lattice, context, engine.finish_all(), right))
                            seen += 1
                    self.assertTrue(seen > 0 or not plain.parts(context))

    def test_states_of_games_with_a_memory(self):
        for lattice in DISTRIBUTIVE[1:6]:
            plain, draw = Plain(lattice), random.Random(lattice.size)
            for rules, start in lively_games(lattice.size, 2, 40, 6, min(3, lattice.size)):
                view = GameView(rules, start)
                right = plain_at(plain, view, start)
                for context in some_contexts(plain, draw, 2):
                    runs = [state for _, state in own_run(plain, view, context)]
                    memory = Memory(lattice, 6) if draw.random() < 0.5 else Spans(lattice)
                    for _ in range(12 if runs else 0):
                        state = bent_state(draw, lattice, draw.choice(runs))
                        ground = GameGround(rules, start)
                        if told_fault(lattice, ground, state) is None:
                            engine = Engine.resumed(lattice, ground, state, memory)
                            self.assertTrue(agree_under(lattice, state[0], engine.finish_all(), right))
                            self.exactly(memory_fault(lattice, rules, memory), None)

    def test_a_copy_of_the_memory_goes_on_alike(self):
        lattice = set_lattice(2)
        for rules, start in lively_games(4, 3, 60, 8):
            ground = GameGround(rules, start)
            for make in memories(lattice):
                memory = make()
                engine = Engine(lattice, ground, (0, 3), memory)
                engine.go_steps(9)
                twin = copy.deepcopy(memory)
                other = Engine.gone_on(lattice, ground, engine.cut_text(), twin)
                self.exactly(other.go_steps(10 ** 6), engine.go_steps(10 ** 6))
                self.exactly(kept_in(twin), kept_in(memory))
                self.exactly(state_fault(lattice, ground, engine.engine_state()), None)
