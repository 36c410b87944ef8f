"""Leaves that hang from the left, doubts, and what is passed by [8.8] to [8.11]."""

import itertools

from cutworths.contexts import hangs
from cutworths.cutting import cut_search
from cutworths.errors import NoLeaf
from cutworths.found import Found
from cutworths.hanging import Doubt, Passing, doubt_at, doubt_fault, hanging_leaves, why_passed
from cutworths.making import chain_lattice, pentagon_lattice, set_lattice
from cutworths.trees import Tree
from cutworths.ways import context_along, leaf_context
from tests.base import NO_NUMBERS, NO_SEQUENCES, Case
from tests.growing import DISTRIBUTIVE, LATTICES, Plain, filled, leaf_rows, some_shapes
from tests.test_ways import own_neutral, own_way

EXAMPLE = ("joins", (("meets", (1, 3)), ("meets", (1, 3))))


def own_doubt(plain, shape, leaf):
    """The two rows of a leaf and their plain worths."""
    row = own_neutral(plain, shape, leaf)
    rows = [row[:leaf] + (worth,) + row[leaf + 1:] for worth in (plain.bottom, plain.top)]
    return rows + [plain.worth_of(filled(shape, row)) for row in rows]


class TestHanging(Case):
    def test_every_lattice(self):
        for lattice in LATTICES:
            plain = Plain(lattice)
            for shape in some_shapes(lattice, "hanging", 24):
                tree = Tree(shape)
                found = []
                for leaf in range(len(tree)):
                    low, high, low_worth, high_worth = own_doubt(plain, shape, leaf)
                    doubt = doubt_at(lattice, tree, leaf)
                    if low_worth == high_worth:
                        self.exactly(doubt, None)
                    else:
                        found.append(leaf)
                        self.exactly((doubt.low, doubt.high, doubt.low_worth, doubt.high_worth),
                                     (low, high, low_worth, high_worth))
                        self.exactly(doubt_fault(lattice, tree, leaf, doubt), None)
                self.exactly(hanging_leaves(lattice, tree), tuple(found))

    def test_some_worths_to_the_right_show_it(self):
        for lattice in DISTRIBUTIVE:
            if lattice.size > 4:
                continue
            plain = Plain(lattice)
            for shape in some_shapes(lattice, "right", 40):
                worths = [worth for _, worth in leaf_rows(shape)]
                if len(worths) > 5:
                    continue
                found = []
                for leaf in range(len(worths)):
                    rests = itertools.product(plain.worths, repeat=len(worths) - leaf - 1)
                    if any(len({plain.worth_of(filled(shape, worths[:leaf] + [worth] + list(rest)))
                                for worth in plain.worths}) > 1 for rest in rests):
                        found.append(leaf)
                self.exactly(hanging_leaves(lattice, Tree(shape)), tuple(found))

    def test_the_example(self):
        lattice, tree = set_lattice(2), Tree(EXAMPLE)
        self.assertEqual(cut_search(lattice, tree), Found(1, (0, 1, 2), ((3, 3),)))
        self.exactly(leaf_context(lattice, tree, 3), (1, 1))
        self.exactly(hanging_leaves(lattice, tree), (0, 1, 2))
        self.assertEqual(doubt_at(lattice, tree, 2), Doubt((1, 3, 0, 3), (1, 3, 3, 3), 1, 3))
        self.exactly(vars(doubt_at(lattice, tree, 2)),
                     {"low": (1, 3, 0, 3), "high": (1, 3, 3, 3), "low_worth": 1, "high_worth": 3})
        self.exactly(doubt_at(lattice, tree, 3), None)
        self.exactly(vars(why_passed(lattice, tree, 3)), {"way": (("joins", 1), ("meets", 1)), "context": (1, 1)})
        self.exactly(why_passed(lattice, tree, 2), None)

    def test_many_leaves(self):
        lattice = chain_lattice(16)
        self.exactly(hanging_leaves(lattice, Tree(("joins", (14,) * 4000))), tuple(range(4000)))
        self.exactly(hanging_leaves(lattice, Tree(("meets", (9,) * 2000 + (0,) * 2000))), tuple(range(2001)))

    def test_one_worth(self):
        self.exactly(hanging_leaves(set_lattice(0), Tree(("joins", (0, 0)))), ())
        self.exactly(doubt_at(set_lattice(0), Tree(0), 0), None)
        self.assertEqual(why_passed(set_lattice(0), Tree(("joins", (0, 0))), 1), Passing((), (0, 0)))


class TestDoubtFault(Case):
    def fault(self, what, leaf=1, **changes):
        lattice, tree = set_lattice(2), Tree(("joins", (1, ("meets", (3, 2)))))
        right = {"low": (1, 0, 3), "high": (1, 3, 3), "low_worth": 1, "high_worth": 3}
        doubt = Doubt(**{**right, **changes})
        before = repr(vars(doubt))
        self.exactly(doubt_fault(lattice, tree, leaf, doubt), what)
        self.exactly(repr(vars(doubt)), before)

    def test_right_ones(self):
        self.fault(None)
        self.fault(None, low=[1, 0, 3], high=[1, 3, 3])
        # The worths to the right and the two at the leaf may be any.
        self.fault(None, low=(1, 1, 2), high=(1, 2, 2), low_worth=1, high_worth=3)
        self.fault(None, low=(1, 3, 2), high=(1, 0, 2), low_worth=3, high_worth=1)

    def test_each_word(self):
        for row in ((), (1, 0), (1, 0, 3, 3), (1, 4, 3), (1, -1, 3)) + NO_SEQUENCES:
            self.fault("low", low=row)
            self.fault("high", high=row)
            self.fault("low", low=row, high=row)
        for thing in NO_NUMBERS:
            self.fault("low", low=(1, thing, 3))
            self.fault("high", high=[1, 3, thing])
            self.fault("low worth", low_worth=thing)
            self.fault("high worth", high_worth=thing)
        self.fault("left", low=(0, 0, 3))
        self.fault("left", high=(2, 3, 3))
        self.fault("left", low=(0, 0, 3), high=(0, 3, 3))
        self.fault("other", low=(1, 0, 2))
        self.fault("other", high=(1, 3, 0))
        self.fault("low worth", low_worth=0)
        self.fault("low worth", low_worth=4)
        self.fault("high worth", high_worth=2)
        self.fault("same", low=(1, 0, 0), high=(1, 3, 0), high_worth=1)
        self.fault("same", high=(1, 0, 3), high_worth=1)

    def test_the_first_word_that_applies(self):
        self.fault("low", low=(), high=(), low_worth=9, high_worth=9)
        self.fault("high", low=(0, 0, 0), high=(), low_worth=9, high_worth=9)
        self.fault("left", low=(0, 0, 0), high=(1, 3, 3), low_worth=9, high_worth=9)
        self.fault("other", low=(1, 0, 0), high=(1, 3, 3), low_worth=9, high_worth=9)
        self.fault("low worth", low_worth=9, high_worth=9)
        self.fault("high worth", low_worth=1, high_worth=1)

    def test_another_leaf(self):
        self.fault("left", leaf=2)
        self.fault("other", leaf=0)
        self.fault(None, leaf=0, low=(0, 3, 1), high=(3, 3, 1), low_worth=1)

    def test_truths_are_no_worths(self):
        self.fault("low worth", low_worth=True)
        self.fault("low", low=(True, 0, 3))

    def test_every_lattice_tells_plain_worths(self):
        lattice = pentagon_lattice()
        plain = Plain(lattice)
        shape = ("meets", (2, ("joins", (1, 3))))
        tree = Tree(shape)
        for rest in plain.worths:
            low, high = (2, 0, rest), (2, 4, rest)
            told = plain.worth_of(filled(shape, low)), plain.worth_of(filled(shape, high))
            for one, other in itertools.product(plain.worths, repeat=2):
                word = "low worth" if one != told[0] else "high worth" if other != told[1] else None
                word = word or ("same" if one == other else None)
                self.exactly(doubt_fault(lattice, tree, 1, Doubt(low, high, one, other)), word)


class TestWhyPassed(Case):
    def test_every_lattice(self):
        for lattice in LATTICES:
            plain = Plain(lattice)
            for shape in some_shapes(lattice, "why", 20):
                tree = Tree(shape)
                for leaf, (road, _) in enumerate(leaf_rows(shape)):
                    way = own_way(plain, shape, road)
                    context, wanted = (plain.bottom, plain.top), None
                    for length in range(len(way) + 1):
                        if not plain.parts(context):
                            wanted = Passing(way[:length], context)
                            break
                        if length < len(way):
                            context = plain.inside(*way[length][:1], context, way[length][1])
                    told = why_passed(lattice, tree, leaf)
                    self.assertEqual(told, wanted)
                    if told is not None:
                        self.exactly(vars(told), vars(wanted))
                        self.exactly(hangs(lattice, told.context), False)
                        self.exactly(context_along(lattice, told.way), told.context)

    def test_none_exactly_for_what_is_asked(self):
        for lattice in DISTRIBUTIVE:
            for shape in some_shapes(lattice, "asked", 20):
                tree = Tree(shape)
                asked = tuple(leaf for leaf in range(len(tree)) if why_passed(lattice, tree, leaf) is None)
                self.exactly(asked, cut_search(lattice, tree).asked)

    def test_no_leaf(self):
        lattice, tree = set_lattice(2), Tree(EXAMPLE)
        for leaf in (-1, 4, 10 ** 20) + NO_NUMBERS:
            self.refused(NoLeaf, {"leaf": leaf}, doubt_at, lattice, tree, leaf)
            self.refused(NoLeaf, {"leaf": leaf}, why_passed, lattice, tree, leaf)
            self.refused(NoLeaf, {"leaf": leaf}, doubt_fault, lattice, tree, leaf, doubt_at(lattice, tree, 0))
            self.refused(NoLeaf, {"leaf": leaf}, doubt_fault, lattice, tree, leaf, Doubt(None, None, None, None))


class TestResults(Case):
    def test_equal_if_all_attributes_are(self):
        doubt = Doubt((1,), (2,), 3, 4)
        self.assertEqual(doubt, Doubt((1,), (2,), 3, 4))
        for other in (Doubt((0,), (2,), 3, 4), Doubt((1,), (0,), 3, 4), Doubt((1,), (2,), 0, 4), Doubt((1,), (2,), 3, 0),
                      ((1,), (2,), 3, 4), None, Passing((1,), (2,))):
            self.assertNotEqual(doubt, other)
        passing = Passing((("joins", 1),), (1, 1))
        self.assertEqual(passing, Passing((("joins", 1),), (1, 1)))
        for other in (Passing((), (1, 1)), Passing((("joins", 1),), (1, 0)), ((("joins", 1),), (1, 1)), None):
            self.assertNotEqual(passing, other)

    def test_they_keep_what_they_are_given(self):
        things = [object(), [1], {}, None]
        doubt = Doubt(*things)
        for thing, name in zip(things, ("low", "high", "low_worth", "high_worth")):
            self.assertIs(getattr(doubt, name), thing)
        passing = Passing(things[1], things[0])
        self.assertIs(passing.way, things[1])
        self.assertIs(passing.context, things[0])
