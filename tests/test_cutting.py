"""Searches from the left, and what they must ask [8.1] to [8.7]."""

import inspect
import itertools
import random

from cutworths.contexts import agree_under, parted_primes, same_map, serves
from cutworths.cutting import cut_search, cut_steps, parent_search, plain_search
from cutworths.errors import BadContext
from cutworths.found import Found
from cutworths.making import chain_lattice, pentagon_lattice, set_lattice
from cutworths.trees import Tree, node_worths, plain_worth, subtree_at
from cutworths.ways import context_along
from tests.base import NO_NUMBERS, NO_SEQUENCES, Case
from tests.growing import DISTRIBUTIVE, LATTICES, TURNED_SIGN, Plain, filled, node_rows, random_shape, some_shapes
from tests.test_ways import own_neutral, own_way


class OwnSearch:
    """The two searches of [8.3] and [8.4] over shapes, with the leaves counted as they go by."""

    def __init__(self, plain):
        self.plain = plain
        self.asked, self.passed, self.steps = [], [], []
        self.leaf = 0

    def skip(self, shape):
        """Go by all leaves of a shape, and tell the first and the last one."""
        first = self.leaf
        self.leaf += sum(isinstance(below, int) for _, below in node_rows(shape))
        return (first, self.leaf - 1)

    def ask(self, shape):
        self.asked.append(self.leaf)
        self.leaf += 1
        return shape

    def by_parents(self, shape, above=None):
        if isinstance(shape, int):
            return self.ask(shape)
        sign, children = shape
        bound = self.plain.start(TURNED_SIGN[sign])
        if above is not None and above[0] != sign:
            bound = above[1]
        so_far = self.plain.start(sign)
        for child in children:
            # A join that holds the bound, or a meet that lies within it, is the join or the meet of the two.
            if self.plain.take(sign, bound, so_far) == so_far:
                self.passed.append(self.skip(child))
            else:
                so_far = self.plain.take(sign, so_far, self.by_parents(child, (sign, so_far)))
        return so_far

    def by_contexts(self, shape, context):
        """The told worth, None for what is passed by."""
        plain = self.plain
        if not plain.parts(context):
            first, last = self.skip(shape)
            self.passed.append((first, last))
            self.steps.append(("pass", first, last, context, None))
            return None
        first = self.leaf
        if isinstance(shape, int):
            self.ask(shape)
            self.steps.append(("ask", first, first, context, shape))
            return shape
        sign, children = shape
        so_far = plain.start(sign)
        for child in children:
            told = self.by_contexts(child, plain.inside(sign, context, so_far))
            if told is not None:
                so_far = plain.take(sign, so_far, told)
        self.steps.append(("told", first, self.leaf - 1, context, so_far))
        return so_far


def own_cut(plain, shape, context):
    """What the search by contexts finds, and its steps."""
    search = OwnSearch(plain)
    told = search.by_contexts(shape, context)
    found = (plain.bottom if told is None else told, tuple(search.asked), tuple(search.passed))
    return found, search.steps


def yes_no_asked(plain, shape, prime):
    """The leaves that the yes-no search of a prime asks, and its answer."""
    asked, leaves = [], itertools.count()

    def skip(shape):
        for _ in range(sum(isinstance(below, int) for _, below in node_rows(shape))):
            next(leaves)

    def answer(shape):
        if isinstance(shape, int):
            asked.append(next(leaves))
            return plain.table[prime][shape]
        stop = shape[0] == "joins"
        told = not stop
        for child in shape[1]:
            if told == stop:
                skip(child)
            else:
                told = answer(child)
        return told
    return answer(shape), asked


class TestPlainSearch(Case):
    def test_every_leaf(self):
        for lattice in LATTICES:
            for shape in some_shapes(lattice, "plain search", 6):
                tree = Tree(shape)
                found = plain_search(lattice, tree)
                self.exactly((found.worth, found.asked, found.passed),
                             (Plain(lattice).worth_of(shape), tuple(range(len(tree))), ()))


class TestParentSearch(Case):
    def test_by_the_rules(self):
        for lattice in LATTICES:
            plain = Plain(lattice)
            for shape in some_shapes(lattice, "parents", 60):
                found = parent_search(lattice, Tree(shape))
                search = OwnSearch(plain)
                told = search.by_parents(shape)
                self.exactly((found.worth, found.asked, found.passed), (told, tuple(search.asked), tuple(search.passed)))
                self.exactly(found.worth, plain.worth_of(shape))

    def test_examples(self):
        lattice = set_lattice(2)
        found = parent_search(lattice, Tree(("joins", (1, ("meets", (1, 2, 3)), 3, 0))))
        self.exactly(vars(found), {"worth": 3, "asked": (0, 1, 4), "passed": ((2, 2), (3, 3), (5, 5))})
        # The parent has the same sign, so that nothing is passed by.
        found = parent_search(lattice, Tree(("joins", (2, ("joins", (2, 2))))))
        self.exactly(vars(found), {"worth": 2, "asked": (0, 1, 2), "passed": ()})
        found = parent_search(set_lattice(0), Tree(("joins", (0, ("meets", (0, 0))))))
        self.exactly(vars(found), {"worth": 0, "asked": (), "passed": ((0, 0), (1, 2))})
        found = parent_search(set_lattice(0), Tree(0))
        self.exactly(vars(found), {"worth": 0, "asked": (0,), "passed": ()})
        found = parent_search(lattice, Tree(("meets", (1, ("joins", (3, 3)), ("meets", (2, 2)), 3))))
        self.exactly(vars(found), {"worth": 0, "asked": (0, 1, 3, 4), "passed": ((2, 2), (5, 5))})


class TestCutSearch(Case):
    def check_cut(self, lattice, plain, shape, context, *passed):
        tree = Tree(shape)
        found = cut_search(lattice, tree, *passed)
        told, steps = own_cut(plain, shape, context)
        self.exactly((found.worth, found.asked, found.passed), told)
        self.exactly(list(cut_steps(lattice, tree, *passed)), steps)

    def test_by_the_rules(self):
        for lattice in LATTICES:
            plain = Plain(lattice)
            for shape in some_shapes(lattice, "cut", 60):
                root = (plain.bottom, plain.top)
                self.check_cut(lattice, plain, shape, root)
                self.check_cut(lattice, plain, shape, root, None)

    def test_under_any_context(self):
        for lattice in LATTICES:
            plain = Plain(lattice)
            draw = random.Random(lattice.size)
            for context in plain.contexts():
                shape = random_shape(draw, lattice.size)
                self.check_cut(lattice, plain, shape, context, context)
                self.check_cut(lattice, plain, shape, context, list(context))

    def test_the_example(self):
        lattice = set_lattice(2)
        tree = Tree(("joins", (("meets", (1, 3)), ("meets", (1, 3)))))
        self.exactly(vars(cut_search(lattice, tree)), {"worth": 1, "asked": (0, 1, 2), "passed": ((3, 3),)})
        self.assertEqual(cut_search(lattice, tree), Found(1, (0, 1, 2), ((3, 3),)))
        self.exactly(list(cut_steps(lattice, tree)), [
            ("ask", 0, 0, (0, 3), 1), ("ask", 1, 1, (0, 1), 3), ("told", 0, 1, (0, 3), 1), ("ask", 2, 2, (1, 3), 1),
            ("pass", 3, 3, (1, 1), None), ("told", 2, 3, (1, 3), 1), ("told", 0, 3, (0, 3), 1)])

    def test_a_root_that_does_not_hang(self):
        lattice = pentagon_lattice()
        for context in ((1, 1), (4, 2), (2, 1), (3, 0)):
            for shape, last in ((3, 0), (("meets", (1, 2, ("joins", (4,)))), 2)):
                found = cut_search(lattice, Tree(shape), context)
                self.exactly(vars(found), {"worth": 0, "asked": (), "passed": ((0, last),)})
                self.exactly(list(cut_steps(lattice, Tree(shape), list(context))), [("pass", 0, last, context, None)])
        one = cut_search(set_lattice(0), Tree(("joins", (0, 0))))
        self.exactly(vars(one), {"worth": 0, "asked": (), "passed": ((0, 1),)})

    def test_bad_contexts(self):
        tree = Tree(("joins", (1, 2)))
        for bad in [(0,), (0, 4), (-1, 3), [0, 1, 2]] + list(NO_SEQUENCES[1:]) + [(0, thing) for thing in NO_NUMBERS]:
            self.refused(BadContext, {}, cut_search, set_lattice(2), tree, bad)
            self.refused(BadContext, {}, lambda *args: list(cut_steps(*args)), set_lattice(2), tree, bad)

    def test_steps_come_from_a_generator(self):
        self.assertTrue(inspect.isgeneratorfunction(cut_steps))
        steps = cut_steps(set_lattice(2), Tree(("joins", (1, 2))))
        self.exactly(next(steps), ("ask", 0, 0, (0, 3), 1))

    def test_each_step_shows_a_search_of_its_own(self):
        for lattice in LATTICES:
            for shape in some_shapes(lattice, "within", 8):
                tree = Tree(shape)
                asked = cut_search(lattice, tree).asked
                nodes = {}
                for node in range(len(tree.nodes)):
                    nodes.setdefault(tree.leaves_under(node), []).append(node)
                for word, first, last, context, worth in cut_steps(lattice, tree):
                    if word != "told":
                        continue
                    inside = [leaf - first for leaf in asked if first <= leaf <= last]
                    found = [cut_search(lattice, subtree_at(tree, node), context) for node in nodes[(first, last)]]
                    self.assertIn((worth, tuple(inside)), [(one.worth, one.asked) for one in found])

    def test_many_leaves(self):
        lattice = chain_lattice(16)
        found = cut_search(lattice, Tree(("joins", (14,) * 4000)))
        self.exactly((found.worth, len(found.asked), found.passed), (14, 4000, ()))
        found = cut_search(lattice, Tree(("joins", (15,) * 4000)))
        self.exactly((found.worth, found.asked, len(found.passed)), (15, (0,), 3999))


class TestInDistributiveLattices(Case):
    def test_what_is_told_agrees(self):
        for lattice in DISTRIBUTIVE:
            plain = Plain(lattice)
            draw = random.Random(lattice.size)
            for shape in some_shapes(lattice, "agrees", 30):
                tree = Tree(shape)
                self.exactly(cut_search(lattice, tree).worth if lattice.size > 1 else 0, plain.worth_of(shape))
                context = draw.choice(plain.contexts())
                found = cut_search(lattice, tree, context)
                self.exactly(agree_under(lattice, context, found.worth, plain_worth(lattice, tree)), True)

    def test_contexts_are_those_of_the_true_ways(self):
        for lattice in DISTRIBUTIVE:
            plain = Plain(lattice)
            draw = random.Random(lattice.size)
            for shape in some_shapes(lattice, "true ways", 12):
                tree = Tree(shape)
                worths = node_worths(lattice, tree)
                roads = [road for road, below in node_rows(shape) if isinstance(below, int)]
                for context in [(plain.bottom, plain.top), draw.choice(plain.contexts())]:
                    for word, first, last, shown, told in cut_steps(lattice, tree, context):
                        if word == "ask":
                            true = context_along(lattice, own_way(plain, shape, roads[first]), context)
                            self.exactly(same_map(lattice, shown, true), True)
                        else:
                            ways = [context_along(lattice, own_way(plain, shape, tree.road_of(node)), context)
                                    for node in range(len(worths)) if tree.leaves_under(node) == (first, last)]
                            self.assertTrue(any(same_map(lattice, shown, true) for true in ways))

    def test_the_leaves_asked_are_those_that_hang(self):
        for lattice in DISTRIBUTIVE:
            plain = Plain(lattice)
            for shape in some_shapes(lattice, "hang", 40):
                hanging = []
                for leaf in range(len(Tree(shape))):
                    row = own_neutral(plain, shape, leaf)
                    ends = [row[:leaf] + (worth,) + row[leaf + 1:] for worth in (plain.bottom, plain.top)]
                    if plain.worth_of(filled(shape, ends[0])) != plain.worth_of(filled(shape, ends[1])):
                        hanging.append(leaf)
                self.exactly(cut_search(lattice, Tree(shape)).asked, tuple(hanging))

    def test_yes_no_searches_of_the_primes(self):
        for lattice in DISTRIBUTIVE:
            plain = Plain(lattice)
            draw = random.Random(lattice.size)
            for shape in some_shapes(lattice, "primes", 12):
                for context in [(plain.bottom, plain.top)] + draw.choices(plain.contexts(), k=3):
                    asked = set()
                    for prime in parted_primes(lattice, context):
                        told, leaves = yes_no_asked(plain, shape, prime)
                        self.exactly(told, plain.table[prime][plain.worth_of(shape)])
                        asked.update(leaves)
                    self.exactly(cut_search(lattice, Tree(shape), context).asked, tuple(sorted(asked)))

    def test_who_serves_asks_all(self):
        for lattice in DISTRIBUTIVE:
            if lattice.size > 6:
                continue
            plain = Plain(lattice)
            trees = [Tree(shape) for shape in some_shapes(lattice, "serves", 12)]
            trees += [Tree((sign, (worth, worth))) for sign in ("joins", "meets") for worth in plain.worths]
            asked = {context: [set(cut_search(lattice, tree, context).asked) for tree in trees]
                     for context in plain.contexts()}
            for kept, wanted in itertools.product(asked, repeat=2):
                within = all(few <= many for few, many in zip(asked[wanted], asked[kept]))
                self.exactly(serves(lattice, kept, wanted) is None, within)

    def test_all_asked_are_asked_by_parents(self):
        for lattice in DISTRIBUTIVE:
            for shape in some_shapes(lattice, "both", 30):
                tree = Tree(shape)
                self.assertLessEqual(set(cut_search(lattice, tree).asked), set(parent_search(lattice, tree).asked))


class TestInEveryLattice(Case):
    def test_both_searches_are_one_in_low_trees(self):
        for lattice in LATTICES:
            if lattice.size == 1:
                continue
            draw = random.Random(lattice.size)
            for _ in range(60):
                sign = draw.choice(("joins", "meets"))
                children = tuple(draw.randrange(lattice.size) if draw.random() < 0.4 else
                                 (TURNED_SIGN[sign], tuple(draw.randrange(lattice.size)
                                                           for _ in range(draw.randint(1, 3))))
                                 for _ in range(draw.randint(1, 4)))
                tree = Tree((sign, children))
                cut, parents = cut_search(lattice, tree), parent_search(lattice, tree)
                self.exactly((cut.worth, cut.asked), (parents.worth, parents.asked))


class TestFound(Case):
    def test_a_result(self):
        found = Found(1, (0,), ((1, 2),))
        self.assertEqual(found, Found(1, (0,), ((1, 2),)))
        for other in (Found(2, (0,), ((1, 2),)), Found(1, (1,), ((1, 2),)), Found(1, (0,), ()), (1, (0,), ((1, 2),)), None):
            self.assertNotEqual(found, other)
        things = [object(), [1], {}]
        kept = Found(*things)
        for thing, name in zip(things, ("worth", "asked", "passed")):
            self.assertIs(getattr(kept, name), thing)
