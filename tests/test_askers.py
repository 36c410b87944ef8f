"""Asking the leaves of a tree in any order [9.1] to [9.6]."""

import itertools
import random

from cutworths.askers import Asking, finish_asking, run_asking
from cutworths.contexts import agree_under
from cutworths.cutting import cut_search
from cutworths.errors import Again, BadPicks, Needless, NoLeaf, NoRoad, NotDone, NoWorth
from cutworths.making import chain_lattice, diamond_lattice, pentagon_lattice, set_lattice
from cutworths.trees import Tree
from tests.base import NO_NUMBERS, NO_SEQUENCES, Case
from tests.growing import DISTRIBUTIVE, LATTICES, OTHERS, Plain, filled, leaf_rows, node_rows, some_shapes

EXAMPLE = ("joins", (("meets", (1, 3)), ("meets", (1, 3))))


class Own:
    """What [9.1] to [9.3] say of an Asking, worked out anew from the kept worths each time."""

    def __init__(self, plain, shape):
        self.plain = plain
        self.shape = shape
        self.rows = leaf_rows(shape)
        self.kept = [None] * len(self.rows)
        self.known = {}

    def bounds(self, road):
        """The low and the high at a road."""
        key = (tuple(self.kept), road)
        if key not in self.known:
            self.known[key] = self.bounds_anew(road)
        return self.known[key]

    def bounds_anew(self, road):
        found = []
        for worth in (self.plain.bottom, self.plain.top):
            shape = filled(self.shape, [worth if kept is None else kept for kept in self.kept])
            for at in road:
                shape = shape[1][at]
            found.append(self.plain.worth_of(shape))
        return tuple(found)

    def context(self, road):
        """The context at a road."""
        context, shape = (self.plain.bottom, self.plain.top), self.shape
        for step, at in enumerate(road):
            sign, children = shape
            others = [self.bounds(road[:step] + (other,)) for other in range(len(children)) if other != at]
            so_far = self.plain.all_of(sign, [low if sign == "joins" else high for low, high in others])
            context = self.plain.inside(sign, context, so_far)
            shape = children[at]
        return context

    def hanging(self):
        """The leaves that hang."""
        return tuple(leaf for leaf, (road, _) in enumerate(self.rows)
                     if self.kept[leaf] is None and self.plain.parts(self.context(road)))


def state_of(asking):
    """All that can be seen of an Asking."""
    tree = asking.tree
    roads = [tree.road_of(node) for node in range(len(tree.nodes))]
    return (asking.asked, [asking.kept_at(leaf) for leaf in range(len(tree))], [asking.bounds_at(road) for road in roads],
            [asking.context_at(road) for road in roads], asking.hanging_now(), asking.is_done)


class TestAsking(Case):
    def compare(self, asking, own, order):
        roads = [road for road, _ in node_rows(own.shape)]
        hanging = own.hanging()
        self.exactly(state_of(asking), (tuple(order), own.kept, [own.bounds(road) for road in roads],
                                        [own.context(road) for road in roads], hanging, hanging == ()))
        self.exactly(asking.root_bounds(), own.bounds(()))
        self.exactly(asking.bounds_at([]), own.bounds(()))
        if hanging:
            self.refused(NotDone, {"hanging": hanging}, asking.root_told)
        else:
            self.exactly(asking.root_told(), own.bounds(())[0])

    def test_asks_and_notes_in_every_lattice(self):
        for lattice in LATTICES:
            plain = Plain(lattice)
            draw = random.Random(lattice.size)
            for at, shape in enumerate(some_shapes(lattice, "asks", 8)):
                tree = Tree(shape)
                asking, own, order = Asking(lattice, tree), Own(plain, shape), []
                self.assertIs(asking.lattice, lattice)
                self.assertIs(asking.tree, tree)
                self.compare(asking, own, order)
                for leaf in draw.sample(range(len(tree)), len(tree)):
                    hanging = own.hanging()
                    if at % 2 and draw.random() < 0.5:
                        worth = draw.randrange(lattice.size)
                        self.exactly(asking.note_leaf(leaf, worth), None)
                    elif leaf in hanging:
                        worth = tree.worths[leaf]
                        self.exactly(asking.ask_leaf(leaf), worth)
                    else:
                        self.refused(Needless, {"leaf": leaf}, asking.ask_leaf, leaf)
                        self.compare(asking, own, order)
                        continue
                    own.kept[leaf] = worth
                    order.append(leaf)
                    self.compare(asking, own, order)
                self.exactly(tree.shape, shape)

    def test_examples(self):
        asking = Asking(set_lattice(2), Tree(EXAMPLE))
        self.exactly((asking.asked, asking.root_bounds(), asking.hanging_now(), asking.is_done), ((), (0, 3), (0, 1, 2, 3), False))
        self.exactly(asking.ask_leaf(2), 1)
        self.exactly((asking.context_at((1, 1)), asking.context_at((1, 0)), asking.context_at((0, 0))),
                     ((0, 1), (0, 3), (0, 3)))
        self.exactly((asking.bounds_at((1,)), asking.bounds_at((0,)), asking.root_bounds()), ((0, 1), (0, 3), (0, 3)))
        self.exactly(asking.ask_leaf(3), 3)
        self.exactly((asking.root_bounds(), asking.context_at((0,)), asking.hanging_now()), ((1, 3), (1, 3), (0, 1)))
        self.exactly(asking.ask_leaf(0), 1)
        self.exactly((asking.asked, asking.is_done, asking.hanging_now(), asking.root_told()), ((2, 3, 0), True, (), 1))
        self.exactly((asking.kept_at(0), asking.kept_at(1)), (1, None))

    def test_done_with_bounds_that_differ(self):
        # In no distributive lattice is an Asking done before low and high are one.
        for lattice, shape, bounds in (
                (diamond_lattice(), ("meets", (1, ("joins", (2, ("meets", (3, 0)))))), (0, 1)),
                (pentagon_lattice(), ("meets", (2, ("joins", (1, ("meets", (3, 0)))))), (1, 2))):
            asking = Asking(lattice, Tree(shape))
            self.exactly(finish_asking(asking), (0, 1, 2))
            self.exactly((asking.is_done, asking.root_bounds(), asking.root_told()), (True, bounds, bounds[0]))

    def test_a_leaf_alone(self):
        asking = Asking(chain_lattice(3), Tree(1))
        self.exactly((asking.hanging_now(), asking.root_bounds(), asking.context_at(())), ((0,), (0, 2), (0, 2)))
        self.exactly((asking.ask_leaf(0), asking.root_told()), (1, 1))
        one = Asking(set_lattice(0), Tree(("joins", (0, 0))))
        self.exactly((one.is_done, one.root_told(), one.hanging_now()), (True, 0, ()))
        self.refused(Needless, {"leaf": 1}, one.ask_leaf, 1)


class TestRefusals(Case):
    def test_no_leaf(self):
        asking = Asking(set_lattice(2), Tree(EXAMPLE))
        for leaf in (-1, 4, 10 ** 20) + NO_NUMBERS:
            self.refused(NoLeaf, {"leaf": leaf}, asking.ask_leaf, leaf)
            self.refused(NoLeaf, {"leaf": leaf}, asking.kept_at, leaf)
            self.refused(NoLeaf, {"leaf": leaf}, asking.note_leaf, leaf, 1)
            self.refused(NoLeaf, {"leaf": leaf}, asking.note_leaf, leaf, 9)

    def test_no_worth(self):
        asking = Asking(set_lattice(2), Tree(EXAMPLE))
        for worth in (-1, 4) + NO_NUMBERS:
            self.refused(NoWorth, {"worth": worth}, asking.note_leaf, 1, worth)
        self.exactly((asking.asked, asking.kept_at(1)), ((), None))

    def test_no_road(self):
        asking = Asking(set_lattice(2), Tree(EXAMPLE))
        for road in ((2,), (-1,), (0, 2), (0, 0, 0), (True,), (0, None)):
            self.refused(NoRoad, {"road": road}, asking.bounds_at, road)
            self.refused(NoRoad, {"road": road}, asking.context_at, road)

    def test_again_and_needless(self):
        asking = Asking(set_lattice(2), Tree(EXAMPLE))
        asking.note_leaf(1, 3)
        asking.ask_leaf(0)
        before = state_of(asking)
        for leaf in (0, 1):
            self.refused(Again, {"leaf": leaf}, asking.ask_leaf, leaf)
            self.refused(Again, {"leaf": leaf}, asking.note_leaf, leaf, 2)
            self.refused(NoWorth, {"worth": 4}, asking.note_leaf, leaf, 4)
        asking.ask_leaf(2)
        self.exactly(asking.hanging_now(), ())
        self.refused(Needless, {"leaf": 3}, asking.ask_leaf, 3)
        # An asked leaf that does not hang either is told first to be asked.
        self.refused(Again, {"leaf": 1}, asking.ask_leaf, 1)
        self.exactly(asking.asked, (1, 0, 2))
        self.exactly(before[0], (1, 0))
        # A leaf that does not hang may be noted.
        self.exactly(asking.note_leaf(3, 0), None)
        self.exactly((asking.asked, asking.kept_at(3)), ((1, 0, 2, 3), 0))

    def test_what_raises_changes_nothing(self):
        asking = Asking(pentagon_lattice(), Tree(("joins", (("meets", (1, 2)), 3))))
        asking.ask_leaf(2)
        before = state_of(asking)
        for call, args in ((asking.ask_leaf, (2,)), (asking.ask_leaf, (3,)), (asking.note_leaf, (0, 5)),
                           (asking.root_told, ()), (asking.bounds_at, ((9,),)), (run_asking, (asking, (0, -1)))):
            with self.assertRaises(ValueError):
                call(*args)
            self.exactly(state_of(asking), before)


class TestRuns(Case):
    def test_picks(self):
        for lattice in LATTICES:
            draw = random.Random(lattice.size)
            for shape in some_shapes(lattice, "picks", 10):
                tree = Tree(shape)
                picks = [draw.randrange(10 ** draw.choice((1, 1, 1, 30))) for _ in range(draw.randrange(len(tree) + 3))]
                asking, other = Asking(lattice, tree), Asking(lattice, tree)
                asked = []
                for pick in picks:
                    hanging = other.hanging_now()
                    if hanging:
                        asked.append(hanging[pick % len(hanging)])
                        other.ask_leaf(asked[-1])
                self.exactly(run_asking(asking, picks), tuple(asked))
                self.exactly(state_of(asking), state_of(other))
                rest = []
                while other.hanging_now():
                    rest.append(other.hanging_now()[0])
                    other.ask_leaf(rest[-1])
                self.exactly(finish_asking(asking), tuple(rest))
                self.exactly(state_of(asking), state_of(other))
                self.exactly((finish_asking(asking), run_asking(asking, (0, 1))), ((), ()))

    def test_no_picks(self):
        asking = Asking(set_lattice(2), Tree(EXAMPLE))
        self.exactly((run_asking(asking, ()), run_asking(asking, [])), ((), ()))
        for picks in NO_SEQUENCES:
            self.refused(BadPicks, {"index": -1}, run_asking, asking, picks)
        for pick in (-1, -10 ** 20) + NO_NUMBERS:
            self.refused(BadPicks, {"index": 0}, run_asking, asking, (pick,))
            self.refused(BadPicks, {"index": 2}, run_asking, asking, [0, 10 ** 20, pick, -1])
        self.exactly(asking.asked, ())

    def test_many_leaves(self):
        lattice = chain_lattice(3)
        asking = Asking(lattice, Tree(("meets", (("joins", (1,) * 500), ("joins", (0,) * 500)))))
        self.exactly(run_asking(asking, (999, 3)), (999, 3))
        self.exactly(len(finish_asking(asking)), 998)
        self.exactly(asking.root_told(), 0)


class TestInDistributiveLattices(Case):
    def test_what_hanging_means(self):
        for lattice in DISTRIBUTIVE:
            if not 1 < lattice.size <= 6:
                continue
            plain = Plain(lattice)
            draw = random.Random(lattice.size)
            for shape in some_shapes(lattice, "means", 24):
                tree = Tree(shape)
                if len(tree) > 7:
                    continue
                asking, kept = Asking(lattice, tree), [None] * len(tree)
                for leaf in [None] + draw.sample(range(len(tree)), len(tree)):
                    if leaf is not None:
                        kept[leaf] = draw.randrange(lattice.size)
                        asking.note_leaf(leaf, kept[leaf])
                    for ends in ((plain.bottom, plain.top),):
                        hanging = [one for one in range(len(tree)) if kept[one] is None
                                   and self.matters(plain, shape, kept, one, ends)]
                        self.exactly(asking.hanging_now(), tuple(hanging))
                    low, high = asking.root_bounds()
                    self.exactly(asking.is_done, low == high)

    def matters(self, plain, shape, kept, leaf, ends):
        """Whether the root's worth can depend on the leaf, the others not asked being at the ends."""
        others = [one for one in range(len(kept)) if kept[one] is None and one != leaf]
        for worths in itertools.product(ends, repeat=len(others)):
            row = list(kept)
            for one, worth in zip(others, worths):
                row[one] = worth
            told = set()
            for worth in plain.worths:
                row[leaf] = worth
                told.add(plain.worth_of(filled(shape, row)))
            if len(told) > 1:
                return True
        return False

    def test_asks_alone_tell_the_plain_worth(self):
        for lattice in DISTRIBUTIVE:
            plain = Plain(lattice)
            draw = random.Random(lattice.size)
            for shape in some_shapes(lattice, "tell", 20):
                asking = Asking(lattice, Tree(shape))
                never = set(range(len(asking.tree))) - set(asking.hanging_now())
                while not asking.is_done:
                    asking.ask_leaf(draw.choice(asking.hanging_now()))
                    self.exactly(never & set(asking.hanging_now()), set())
                    never = set(range(len(asking.tree))) - set(asking.hanging_now())
                self.exactly(asking.root_told(), plain.worth_of(shape))

    def test_notes_that_agree_tell_the_plain_worth(self):
        for lattice in DISTRIBUTIVE:
            plain = Plain(lattice)
            draw = random.Random(lattice.size)
            for shape in some_shapes(lattice, "notes", 20):
                tree = Tree(shape)
                asking = Asking(lattice, tree)
                contexts = {leaf: [] for leaf in range(len(tree))}
                for leaf in draw.sample(range(len(tree)), len(tree)):
                    for one in contexts:
                        contexts[one].append(asking.context_at(tree.road_of(tree.leaves[one])))
                    stale = draw.choice(contexts[leaf])
                    true = tree.worths[leaf]
                    alike = [worth for worth in plain.worths if agree_under(lattice, stale, worth, true)]
                    asking.note_leaf(leaf, draw.choice(alike))
                    low, high = asking.root_bounds()
                    self.assertTrue(plain.table[low][plain.worth_of(shape)] and plain.table[plain.worth_of(shape)][high])
                self.exactly(asking.root_told(), plain.worth_of(shape))

    def test_from_the_left_it_is_the_search(self):
        for lattice in DISTRIBUTIVE:
            for shape in some_shapes(lattice, "left", 30):
                asking = Asking(lattice, Tree(shape))
                found = cut_search(lattice, Tree(shape))
                self.exactly(finish_asking(asking), found.asked)
                self.exactly(asking.asked, found.asked)


class TestInEveryLattice(Case):
    def test_lows_rise_and_highs_fall(self):
        for lattice in OTHERS:
            plain = Plain(lattice)
            draw = random.Random(lattice.size)
            for shape in some_shapes(lattice, "rise", 12):
                asking = Asking(lattice, Tree(shape))
                roads = [road for road, _ in node_rows(shape)]
                bounds = [asking.bounds_at(road) for road in roads]
                for leaf in draw.sample(range(len(asking.tree)), len(asking.tree)):
                    asking.note_leaf(leaf, draw.randrange(lattice.size))
                    new = [asking.bounds_at(road) for road in roads]
                    for (low, high), (new_low, new_high) in zip(bounds, new):
                        self.assertTrue(plain.table[low][new_low] and plain.table[new_high][high])
                        self.assertTrue(plain.table[new_low][new_high])
                    bounds = new
