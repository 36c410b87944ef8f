"""Certificates [13.1] to [13.3], [13.6] to [13.8]."""

import itertools
import random

from cutworths.certificates import both_from, certificate_from, cited_leaves, fewest_certificate
from cutworths.enough import is_enough
from cutworths.errors import BadLot, BadWhich, NoWorth
from cutworths.judge import judge_both, judge_certificate
from cutworths.making import chain_lattice, set_lattice
from cutworths.trees import Tree
from tests.base import NO_NUMBERS, NO_SEQUENCES, Case
from tests.growing import LATTICES, Plain, as_lists, filled, leaf_rows, some_shapes
from tests.test_judge import EXAMPLE, FLOOR, KINDS, NO_KINDS, neutral, random_certificate, reaches


def own_part(plain, shape, leaves, which):
    """The part for a node whose leaves have these numbers, the lot's ones kept as numbers and the others as None."""
    if isinstance(shape, int):
        return (shape if leaves[0] is not None else neutral(plain, which), ()), leaves[1:]
    parts, bounds = [], []
    for child, inner in enumerate(shape[1]):
        before = leaves
        part, leaves = own_part(plain, inner, leaves, which)
        bounds.append(part[0])
        if any(leaf is not None for leaf in before[:len(before) - len(leaves)]):
            parts.append((child, part))
    return (plain.all_of(shape[0], bounds), tuple(parts)), leaves


def own_certificate(plain, shape, lot, which):
    """The certificate of a lot, straight from [13.6]."""
    many = len(leaf_rows(shape))
    part, _ = own_part(plain, shape, [leaf if leaf in lot else None for leaf in range(many)], which)
    return part if lot else (neutral(plain, which), ())


def own_cited(plain, shape, certificate, which):
    """The leaves cited, straight from [13.7]."""
    roads = [road for road, _ in leaf_rows(shape)]
    found = []

    def look(part, road):
        if road in roads and part[0] != neutral(plain, which):
            found.append(roads.index(road))
        for child, inner in part[1]:
            look(inner, road + (child,))
    look(certificate, ())
    return tuple(sorted(found))


def own_fewest(plain, shape, bound, which):
    """The size of the smallest lot whose certificate reaches the bound, None if there is none."""
    many = len(leaf_rows(shape))
    for size in range(many + 1):
        for lot in itertools.combinations(range(many), size):
            if reaches(plain, which, bound, own_certificate(plain, shape, lot, which)[0]):
                return size
    return None


class TestFromLots(Case):
    def test_in_every_lattice(self):
        for lattice in LATTICES:
            plain, draw = Plain(lattice), random.Random(lattice.size)
            for shape in some_shapes(lattice, "lots", 16):
                tree = Tree(shape)
                for which in KINDS * 2:
                    lot = sorted(draw.sample(range(len(tree)), draw.randint(0, len(tree))))
                    found = certificate_from(lattice, tree, draw.choice((lot, tuple(lot), lot[::-1] + lot)), which)
                    self.exactly(found, own_certificate(plain, shape, lot, which))
                    self.exactly(judge_certificate(lattice, tree, found, which), None)
                    row = [worth if leaf in lot else neutral(plain, which) for leaf, worth in enumerate(tree.worths)]
                    self.exactly(found[0], plain.worth_of(filled(shape, row)))
                    cited = cited_leaves(lattice, tree, found, which)
                    self.exactly(cited, tuple(leaf for leaf in lot if tree.worths[leaf] != neutral(plain, which)))
                    both = both_from(lattice, tree, lot)
                    self.exactly(both, tuple(own_certificate(plain, shape, lot, kind) for kind in KINDS))
                    if is_enough(lattice, tree, lot):
                        self.exactly(judge_both(lattice, tree, both[0], both[1], plain.worth_of(shape)), True)

    def test_examples(self):
        lattice, tree = set_lattice(2), Tree(EXAMPLE)
        self.exactly(certificate_from(lattice, tree, (0, 1), "floor"), FLOOR)
        self.exactly(certificate_from(lattice, tree, [1, 0, 1], "floor"), FLOOR)
        self.exactly(certificate_from(lattice, tree, (0, 1), "ceiling"), (3, ((0, (1, ((0, (1, ())), (1, (3, ()))))),)))
        for lot in ((), []):
            self.exactly(certificate_from(lattice, tree, lot, "floor"), (0, ()))
            self.exactly(certificate_from(lattice, tree, lot, "ceiling"), (3, ()))
            self.exactly(both_from(lattice, tree, lot), ((0, ()), (3, ())))
            self.exactly(both_from(lattice, Tree(1), lot), ((0, ()), (3, ())))
        self.exactly(both_from(lattice, Tree(1), (0,)), ((1, ()), (1, ())))

    def test_many_leaves(self):
        lattice = chain_lattice(3)
        tree = Tree(("joins", tuple(("meets", (1, 2)) for _ in range(2000))))
        floor, ceiling = both_from(lattice, tree, list(range(4000)))
        self.exactly(judge_both(lattice, tree, floor, ceiling, 1), True)
        self.exactly(len(cited_leaves(lattice, tree, floor, "floor")), 4000)
        self.exactly(len(cited_leaves(lattice, tree, ceiling, "ceiling")), 2000)

    def test_refusals(self):
        lattice, tree = set_lattice(2), Tree(EXAMPLE)
        for lot in NO_SEQUENCES:
            self.refused(BadLot, {"index": -1}, certificate_from, lattice, tree, lot, "roof")
            self.refused(BadLot, {"index": -1}, both_from, lattice, tree, lot)
        for leaf in (-1, 4) + NO_NUMBERS:
            self.refused(BadLot, {"index": 1}, certificate_from, lattice, tree, (0, leaf, -1), "floor")
            self.refused(BadLot, {"index": 0}, both_from, lattice, tree, [leaf])
        for which in NO_KINDS:
            self.refused(BadWhich, {"which": which}, certificate_from, lattice, tree, (0,), which)
            self.refused(BadWhich, {"which": which}, cited_leaves, lattice, tree, FLOOR, which)


class TestCited(Case):
    def test_certificates_of_all_kinds(self):
        for lattice in LATTICES:
            plain, draw = Plain(lattice), random.Random(lattice.size)
            for shape in some_shapes(lattice, "cited", 16):
                for which in KINDS:
                    certificate = random_certificate(draw, plain, shape, which, 0.3)
                    wanted = own_cited(plain, shape, certificate, which)
                    self.exactly(cited_leaves(lattice, Tree(shape), certificate, which), wanted)
                    self.exactly(cited_leaves(lattice, Tree(shape), as_lists(certificate), which), wanted)

    def test_examples(self):
        lattice, tree = set_lattice(2), Tree(EXAMPLE)
        self.exactly(cited_leaves(lattice, tree, FLOOR, "floor"), (0, 1))
        self.exactly(cited_leaves(lattice, tree, FLOOR, "ceiling"), (0,))
        self.exactly(cited_leaves(lattice, tree, (3, ((1, (2, ())),)), "floor"), ())
        self.exactly(cited_leaves(lattice, Tree(1), (1, ()), "floor"), (0,))
        self.exactly(cited_leaves(lattice, Tree(1), (0, ()), "floor"), ())
        self.exactly(cited_leaves(lattice, Tree(1), (0, ()), "ceiling"), (0,))


class TestFewest(Case):
    def test_in_every_lattice(self):
        for lattice in LATTICES:
            plain, draw = Plain(lattice), random.Random(lattice.size)
            shapes = [shape for shape in some_shapes(lattice, "fewest", 30) if len(leaf_rows(shape)) <= 7][:8]
            for shape in shapes:
                tree, worth = Tree(shape), plain.worth_of(shape)
                for which in KINDS:
                    for bound in draw.sample(plain.worths, min(4, lattice.size)):
                        found = fewest_certificate(lattice, tree, bound, which)
                        size = own_fewest(plain, shape, bound, which)
                        self.exactly(found is None, not reaches(plain, which, bound, worth))
                        self.exactly(found is None, size is None)
                        if found is not None:
                            self.exactly(found[0], bound)
                            self.exactly(judge_certificate(lattice, tree, found, which), None)
                            self.exactly(len(cited_leaves(lattice, tree, found, which)), size)

    def test_no_standing_certificate_cites_fewer(self):
        for lattice in LATTICES[1:]:
            plain, draw = Plain(lattice), random.Random(lattice.size)
            for shape in some_shapes(lattice, "fewer", 10):
                for which in KINDS * 10:
                    certificate = random_certificate(draw, plain, shape, which)
                    if judge_certificate(lattice, Tree(shape), certificate, which) is None:
                        found = fewest_certificate(lattice, Tree(shape), certificate[0], which)
                        self.assertTrue(len(own_cited(plain, shape, found, which))
                                        <= len(own_cited(plain, shape, certificate, which)))

    def test_ten_leaves(self):
        lattice = set_lattice(3)
        tree = Tree(("joins", (("meets", (3, 7)), ("meets", (5, 7, 5)), ("meets", (6, 6)), 1, 2, 4)))
        found = fewest_certificate(lattice, tree, 7, "floor")
        self.exactly((found[0], len(cited_leaves(lattice, tree, found, "floor"))), (7, 3))
        found = fewest_certificate(lattice, tree, 3, "floor")
        self.exactly((found[0], len(cited_leaves(lattice, tree, found, "floor"))), (3, 2))
        self.exactly(fewest_certificate(lattice, tree, 3, "ceiling"), None)
        self.exactly(fewest_certificate(lattice, tree, 7, "ceiling"), (7, ()))
        self.exactly(fewest_certificate(lattice, tree, 0, "floor"), (0, ()))

    def test_leaves_alone(self):
        lattice = set_lattice(2)
        for which in KINDS:
            for bound, worth in itertools.product(range(4), repeat=2):
                right = bound & worth == (bound if which == "floor" else worth)
                self.exactly(fewest_certificate(lattice, Tree(worth), bound, which), (bound, ()) if right else None)

    def test_refusals(self):
        lattice, tree = set_lattice(2), Tree(EXAMPLE)
        for bound in (-1, 4) + NO_NUMBERS:
            self.refused(NoWorth, {"worth": bound}, fewest_certificate, lattice, tree, bound, "floor")
            self.refused(NoWorth, {"worth": bound}, fewest_certificate, lattice, tree, bound, None)
        for which in NO_KINDS:
            for bound in range(4):
                self.refused(BadWhich, {"which": which}, fewest_certificate, lattice, tree, bound, which)
                self.refused(BadWhich, {"which": which}, fewest_certificate, lattice, Tree(1), bound, which)
