"""The judge of certificates [13.1] to [13.5]."""

import itertools
import random

from cutworths.errors import BadWhich
from cutworths.judge import judge_both, judge_certificate
from cutworths.making import chain_lattice, set_lattice
from cutworths.trees import Tree
from tests.base import NO_NUMBERS, NO_SEQUENCES, Case
from tests.growing import LATTICES, Plain, as_lists, some_shapes

EXAMPLE = ("joins", (("meets", (1, 3)), ("meets", (2, 3))))
FLOOR = (1, ((0, (1, ((0, (1, ())), (1, (3, ()))))),))
KINDS = ("floor", "ceiling")
NO_KINDS = (None, 0, True, "", "floors", "Floor", b"floor", ("floor",), ["floor"], {"floor": 1}, "ceilin")


def reaches(plain, which, bound, worth):
    return plain.table[bound][worth] if which == "floor" else plain.table[worth][bound]


def neutral(plain, which):
    return plain.bottom if which == "floor" else plain.top


def shown(plain, shape, parts, which):
    """What the parts show of a node."""
    if isinstance(shape, int):
        return shape
    bounds = [neutral(plain, which)] * len(shape[1])
    for child, part in parts:
        bounds[child] = part[0]
    return plain.all_of(shape[0], bounds)


def own_fault(plain, shape, thing, which):
    """The first fault of a certificate, straight from [13.4]."""
    fault = form_fault(plain, shape, thing, ())
    return bound_fault(plain, shape, thing, (), which) if fault is None else fault


def is_number(thing):
    return isinstance(thing, int) and not isinstance(thing, bool)


def form_fault(plain, shape, thing, road):
    if not isinstance(thing, (list, tuple)) or len(thing) != 2:
        return (road, "form")
    if not is_number(thing[0]) or thing[0] not in plain.worths or not isinstance(thing[1], (list, tuple)):
        return (road, "form")
    if any(not isinstance(couple, (list, tuple)) or len(couple) != 2 for couple in thing[1]):
        return (road, "form")
    many = 0 if isinstance(shape, int) else len(shape[1])
    for at, (child, _) in enumerate(thing[1]):
        if not is_number(child) or not 0 <= child < many or (at > 0 and child <= thing[1][at - 1][0]):
            return (road, "child")
    for child, part in thing[1]:
        fault = form_fault(plain, shape[1][child], part, road + (child,))
        if fault is not None:
            return fault
    return None


def bound_fault(plain, shape, thing, road, which):
    if not reaches(plain, which, thing[0], shown(plain, shape, thing[1], which)):
        return (road, "bound")
    for child, part in thing[1]:
        fault = bound_fault(plain, shape[1][child], part, road + (child,), which)
        if fault is not None:
            return fault
    return None


def random_certificate(draw, plain, shape, which, right=0.8):
    """Some certificate of the right form; its bounds mostly stand."""
    named = []
    if not isinstance(shape, int):
        named = sorted(draw.sample(range(len(shape[1])), draw.randint(0, len(shape[1]))))
    parts = tuple((child, random_certificate(draw, plain, shape[1][child], which, right)) for child in named)
    told = shown(plain, shape, parts, which)
    bounds = [bound for bound in plain.worths if reaches(plain, which, bound, told)]
    return (told if draw.random() < 0.6 else draw.choice(bounds if draw.random() < right else plain.worths), parts)


def bent(draw, plain, thing):
    """The certificate as lists, with one thing in it changed."""
    thing = as_lists(thing)
    at = thing
    while at[1] and draw.random() < 0.6:
        at = draw.choice(at[1])[1]
    what = draw.randrange(6)
    if what == 0:
        at[0] = draw.choice((-1, len(plain.worths), None, True, False, "0", 0.0, (0,)) + tuple(plain.worths))
    elif what == 1 and at[1]:
        draw.choice(at[1])[0] = draw.choice((-1, 0, 1, 2, 9, None, True, False, "0", 1.0, 10 ** 20))
    elif what == 2 and at[1]:
        draw.choice(at[1])[1] = draw.choice((None, 3, (), (0,), (0, 0), (0, (), 0), [0, []], (0, (3,)), (0, ((0,),))))
    elif what == 3:
        at[1].insert(draw.randrange(len(at[1]) + 1), draw.choice(([0, [0, []]], [1, [1, []]], [], None, [0], [0, 0, 0], "ab")))
    elif what == 4:
        at[1] = draw.choice((None, (), "", "ab", {}, 3, [3], [[]], ((0, (0, ())),)))
    else:
        at.append(0) if draw.random() < 0.5 else at.pop()
    return thing


class TestJudge(Case):
    def test_right_and_wrong_bounds_in_every_lattice(self):
        told = {}
        for lattice in LATTICES:
            plain, draw = Plain(lattice), random.Random(lattice.size)
            for shape in some_shapes(lattice, "judge", 16):
                tree = Tree(shape)
                for which in KINDS * 4:
                    certificate = random_certificate(draw, plain, shape, which)
                    fault = own_fault(plain, shape, certificate, which)
                    self.exactly(judge_certificate(lattice, tree, certificate, which), fault)
                    self.exactly(judge_certificate(lattice, tree, as_lists(certificate), which), fault)
                    told[fault and fault[1]] = told.get(fault and fault[1], 0) + 1
                    if fault is None:
                        self.assertTrue(reaches(plain, which, certificate[0], plain.worth_of(shape)))
        self.assertEqual(set(told), {None, "bound"})
        self.assertTrue(min(told.values()) > 100)

    def test_bent_ones(self):
        told = {}
        for lattice in LATTICES:
            plain, draw = Plain(lattice), random.Random(lattice.size)
            for shape in some_shapes(lattice, "bent", 16):
                for which in KINDS * 6:
                    thing = bent(draw, plain, random_certificate(draw, plain, shape, which))
                    if draw.random() < 0.3 and isinstance(thing, list) and len(thing) == 2 and isinstance(thing[1], list):
                        thing = bent(draw, plain, thing) if all(isinstance(part, list) for part in thing[1]) and \
                            own_fault(plain, shape, thing, which) in (None, ((), "bound")) else thing
                    fault, before = own_fault(plain, shape, thing, which), repr(thing)
                    self.exactly(judge_certificate(lattice, Tree(shape), thing, which), fault)
                    self.exactly(repr(thing), before)
                    told[fault and fault[1]] = told.get(fault and fault[1], 0) + 1
        self.assertEqual(set(told), {None, "form", "child", "bound"})
        self.assertTrue(min(told.values()) > 40, told)

    def judged(self, certificate, fault, which="floor", shape=EXAMPLE):
        self.exactly(judge_certificate(set_lattice(2), Tree(shape), certificate, which), fault)

    def test_examples(self):
        self.judged(FLOOR, None)
        self.judged((3, FLOOR[1]), ((), "bound"))
        self.judged((0, ()), None)
        self.judged((3, ()), None, "ceiling")
        self.judged((1, ()), ((), "bound"))
        self.judged((3, ((0, (1, ((0, (1, ())), (1, (1, ()))))), (1, (2, ((0, (2, ())), (1, (3, ()))))))), None)
        self.judged((3, ((0, (1, ())), (1, (2, ((0, (2, ())), (1, (3, ()))))))), ((0,), "bound"))
        self.judged((3, ((0, (1, ((0, (3, ())), (1, (3, ()))))), (1, (2, ())))), ((0, 0), "bound"))
        self.judged((2, ((0, (0, ())), (1, (2, ())))), ((1,), "bound"))
        self.judged((1, ((0, (1, ((0, (1, ())),))), (1, (0, ((0, (0, ())),))))), ((1, 0), "bound"), "ceiling")
        self.judged((1, ((0, (1, ((0, (1, ())),))), (1, (2, ((0, (2, ())),))))), ((), "bound"), "ceiling")
        self.judged((3, ((0, (1, ((0, (1, ())),))), (1, (2, ((0, (2, ())),))))), None, "ceiling")
        # What is written is judged, though more could be shown.
        self.judged((3, ((0, (1, ((0, (1, ())), (1, (3, ()))))), (1, (0, ((0, (2, ())), (1, (3, ()))))))), ((), "bound"))

    def test_leaves(self):
        for which in KINDS:
            for bound, worth in itertools.product(range(4), repeat=2):
                right = bound & worth == (bound if which == "floor" else worth)
                self.judged((bound, ()), None if right else ((), "bound"), which, worth)
                self.judged([bound, []], None if right else ((), "bound"), which, worth)
                self.judged((bound, ((0, (0, ())),)), ((), "child"), which, worth)

    def test_forms(self):
        for thing in NO_SEQUENCES + ((), (0,), (0, (), ()), [0], "0(", (0, 0), (0, None), (0, "ab"), (0, {}), (0, (3,)),
                                     (0, ((0,),)), (0, ((0, 0, 0),)), (0, ((1, (0, ())), "ab")), (0, ({0: 1, 1: 2},))):
            self.judged(thing, ((), "form"))
            self.judged((0, ((1, thing),)), ((1,), "form"))
            self.judged((0, ((0, (0, ((1, thing),))),)), ((0, 1), "form"))
        for bound in (-1, 4) + NO_NUMBERS:
            self.judged((bound, ()), ((), "form"))
            self.judged([bound, [[7, [0, []]]]], ((), "form"))
            self.judged((0, ((0, (0, ((0, (bound, ())),))),)), ((0, 0), "form"))

    def test_children(self):
        for child in (-1, 2, 10 ** 20) + NO_NUMBERS:
            self.judged((0, ((child, (0, ())),)), ((), "child"))
            self.judged((0, ((0, (0, ())), (child, None))), ((), "child"))
            self.judged((0, ((1, (0, ((child, (0, ())),))),)), ((1,), "child"))
        for children in ((0, 0), (1, 0), (1, 1), (0, 1, 1), (0, 1, 0)):
            self.judged((0, tuple((child, (0, ())) for child in children)), ((), "child"))
        self.judged((0, ((0, (0, ((0, (0, ((0, (0, ())),))),))),)), ((0, 0), "child"))

    def test_the_first_fault(self):
        wrong_bound, wrong_form, wrong_child = (3, ()), (0,), (0, ((5, (0, ())),))
        self.judged((3, ((0, wrong_bound), (1, wrong_form))), ((1,), "form"))
        self.judged((0, ((0, wrong_bound), (1, wrong_child))), ((1,), "child"))
        self.judged((0, ((0, wrong_child), (1, wrong_form))), ((0,), "child"))
        self.judged((0, ((0, (0, ((1, wrong_form),))), (1, wrong_form))), ((0, 1), "form"))
        self.judged((0, ((1, wrong_form), (0, wrong_form))), ((), "child"))
        self.judged((0, ((0, wrong_bound), (1, wrong_bound))), ((0,), "bound"))
        self.judged((0, ((0, (0, ((1, (3, ())), ))), (1, wrong_bound))), ((1,), "bound"))
        self.judged((0, ((0, (0, ((0, (3, ())), ))), (1, wrong_bound))), ((0, 0), "bound"))

    def test_a_certificate_within_itself(self):
        thing = [0, []]
        thing[1].append([0, thing])
        self.judged(thing, ((0, 0), "child"))

    def test_bad_kinds(self):
        for which in NO_KINDS:
            self.refused(BadWhich, {"which": which}, judge_certificate, set_lattice(2), Tree(EXAMPLE), FLOOR, which)
            self.refused(BadWhich, {"which": which}, judge_certificate, set_lattice(2), Tree(EXAMPLE), None, which)


class TestBoth(Case):
    def test_all_couples_of_small_certificates(self):
        lattice = chain_lattice(3)
        tree = Tree(("joins", (1, 2)))
        floors = [(bound, parts) for bound in range(3) for parts in ((), ((1, (2, ())),), ((0, (1, ())),))]
        ceilings = [(bound, parts) for bound in range(3) for parts in ((), ((0, (1, ())), (1, (2, ()))), ((1, (2, ())),))]
        found = []
        for floor, ceiling in itertools.product(floors, ceilings):
            for worth in (-1, 0, 1, 2, 3):
                right = (judge_certificate(lattice, tree, floor, "floor") is None
                         and judge_certificate(lattice, tree, ceiling, "ceiling") is None
                         and floor[0] == worth and ceiling[0] == worth)
                self.exactly(judge_both(lattice, tree, floor, ceiling, worth), right)
                if right:
                    found.append(worth)
        self.assertEqual(set(found), {2})

    def test_other_things(self):
        tree = Tree(("meets", (1, 1)))
        lattice = chain_lattice(2)
        floor, ceiling = (1, ((0, (1, ())), (1, (1, ())))), (1, ())
        self.exactly(judge_both(lattice, tree, floor, ceiling, 1), True)
        self.exactly(judge_both(lattice, tree, as_lists(floor), [1, []], 1), True)
        self.exactly(judge_both(lattice, tree, ceiling, floor, 1), False)
        for thing in NO_SEQUENCES + ((), (1,), (True, ())):
            self.exactly(judge_both(lattice, tree, thing, ceiling, 1), False)
            self.exactly(judge_both(lattice, tree, floor, thing, 1), False)
        for worth in NO_NUMBERS + (0, 2, -1):
            self.exactly(judge_both(lattice, tree, floor, ceiling, worth), False)
