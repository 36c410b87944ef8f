"""Plans [14.4] to [14.8]."""

import itertools
import random

from cutworths.errors import BadHolder, BadPicks, NotPrime, NoWorth, TooMany
from cutworths.goals import rival_of
from cutworths.judge import judge_certificate
from cutworths.making import chain_lattice, diamond_lattice, pentagon_lattice, set_lattice
from cutworths.plans import Plan, all_plans, plan_ends, plan_fault, plan_for, walk_plan, worth_by_plans
from cutworths.trees import Tree
from tests.base import NO_NUMBERS, NO_SEQUENCES, Case
from tests.growing import DISTRIBUTIVE, LATTICES, OTHERS, Plain, as_lists, leaf_rows, some_shapes
from tests.test_goals import own_firm
from tests.test_judge import bent, reaches

EXAMPLE = ("joins", (("meets", (1, 3)), ("meets", (2, 3))))
HOLDERS = ("joins", "meets")
NO_HOLDERS = (None, "", "join", "Joins", 0, True, ("joins",), ["joins"], {"joins": 1}, b"joins")


def own_plans(shape, holder, first=0):
    """The plans of [14.4], lists of leaf numbers."""
    if isinstance(shape, int):
        return [[first]]
    rows = []
    for child in shape[1]:
        rows.append(own_plans(child, holder, first))
        first += len(leaf_rows(child))
    if shape[0] == holder:
        return [plan for row in rows for plan in row]
    return [sum(parts, []) for parts in itertools.product(*rows)]


def kind(holder):
    return "floor" if holder == "joins" else "ceiling"


def own_part(plain, shape, holder, bound):
    """The certificate of [14.6]."""
    if isinstance(shape, int):
        return (bound, ())
    numbers = range(len(shape[1]))
    if shape[0] == holder:
        numbers = [at for at in numbers if reaches(plain, kind(holder), bound, plain.worth_of(shape[1][at]))][:1]
    return (bound, tuple((at, own_part(plain, shape[1][at], holder, bound)) for at in numbers))


def own_plan(plain, lattice, shape, prime):
    if plain.table[prime][plain.worth_of(shape)]:
        return ("joins", own_part(plain, shape, "joins", prime))
    return ("meets", own_part(plain, shape, "meets", rival_of(lattice, prime)))


def own_fault(plain, lattice, shape, prime, plan):
    """The fault of a plan, straight from [14.7]; the judge's part of it by the judge."""
    if plan.holder not in HOLDERS:
        return ((), "holder")
    fault = judge_certificate(lattice, Tree(shape), plan.certificate, kind(plan.holder))
    if fault is not None:
        return fault
    bound = prime if plan.holder == "joins" else rival_of(lattice, prime)

    def look(part, shape, road):
        if part[0] != bound:
            return (road, "bound")
        if not isinstance(shape, int):
            named = [child for child, _ in part[1]]
            if shape[0] == plan.holder and len(named) != 1 or shape[0] != plan.holder and len(named) != len(shape[1]):
                return (road, "choice")
        for child, inner in part[1]:
            fault = look(inner, shape[1][child], road + (child,))
            if fault:
                return fault
        return None
    return look(plan.certificate, shape, ())


class TestAllPlans(Case):
    def test_against_the_definition(self):
        for lattice in LATTICES:
            plain = Plain(lattice)
            for shape in some_shapes(lattice, "plans", 24):
                tree, worth = Tree(shape), plain.worth_of(shape)
                for holder, foreign in (("joins", "meets"), ("meets", "joins")):
                    plans = own_plans(shape, holder)
                    if len(plans) > 4000:
                        self.refused(TooMany, {"most": 4000}, all_plans, tree, holder)
                        self.refused(TooMany, {"most": 4000}, worth_by_plans, lattice, tree, holder)
                        continue
                    self.exactly(all_plans(tree, holder), tuple(tuple(plan) for plan in plans))
                    told = plain.all_of(holder, [plain.all_of(foreign, [tree.worths[leaf] for leaf in plan]) for plan in plans])
                    self.exactly(worth_by_plans(lattice, tree, holder), told)
                    self.assertTrue(plain.table[told][worth] if holder == "joins" else plain.table[worth][told])
                    if lattice in DISTRIBUTIVE:
                        self.exactly(told, worth)

    def test_examples(self):
        tree = Tree(EXAMPLE)
        self.exactly(all_plans(tree, "joins"), ((0, 1), (2, 3)))
        self.exactly(all_plans(tree, "meets"), ((0, 2), (0, 3), (1, 2), (1, 3)))
        self.exactly((all_plans(Tree(3), "joins"), all_plans(Tree(3), "meets")), (((0,),), ((0,),)))
        nested = Tree(("meets", (("joins", (1, 2)), ("meets", (3, ("joins", (1, 2)))), ("joins", (0,)))))
        self.exactly(all_plans(nested, "joins"), ((0, 2, 3, 5), (0, 2, 4, 5), (1, 2, 3, 5), (1, 2, 4, 5)))
        self.exactly(all_plans(nested, "meets"), ((0, 1), (2,), (3, 4), (5,)))

    def test_4000_and_one_more(self):
        ways = ("joins", (1,) * 10)
        for shape, many in ((("meets", (ways, ways, ways, ("joins", (1,) * 4))), 4000),
                            (("meets", (("joins", (ways, ("meets", (("joins", (1,) * 30), ("joins", (1,) * 133))))), 1)), 4000),
                            (("joins", (1,) * 4000), 4000), (("joins", (("meets", (ways, ways, ways)),) * 4), 4000)):
            self.exactly(len(all_plans(Tree(shape), "joins")), many)
            self.exactly(len(all_plans(Tree(self.turned(shape)), "meets")), many)
        for shape in (("joins", (("meets", (ways, ways, ways, ("joins", (1,) * 4))), 1)),
                      ("meets", (("joins", (1,) * 64), ("joins", (1,) * 63))),
                      ("meets", (("meets", (("joins", (1,) * 64),)), ("joins", (("joins", (1,) * 63),)))),
                      ("meets", (ways, ways, ways, ways)), ("meets", (("joins", (1, 1)),) * 2000)):
            self.refused(TooMany, {"most": 4000}, all_plans, Tree(shape), "joins")
            self.refused(TooMany, {"most": 4000}, worth_by_plans, chain_lattice(2), Tree(shape), "joins")
            self.refused(TooMany, {"most": 4000}, all_plans, Tree(self.turned(shape)), "meets")

    def turned(self, shape):
        if isinstance(shape, int):
            return shape
        return ("meets" if shape[0] == "joins" else "joins", tuple(self.turned(child) for child in shape[1]))

    def test_many_long_plans(self):
        shape = ("meets", (1,) * 3970 + (("joins", (0, 1)),) * 11)
        plans = all_plans(Tree(shape), "joins")
        self.exactly((len(plans), len(plans[0]), plans[0][-1], plans[1][-2:], plans[-1][-1]), (2048, 3981, 3990, (3988, 3991), 3991))
        self.exactly(worth_by_plans(chain_lattice(2), Tree(shape), "joins"), 1)

    def test_other_lattices_have_a_tree_of_three_leaves(self):
        for lattice in OTHERS:
            plain = Plain(lattice)
            found = False
            for worths in itertools.product(plain.worths, repeat=3):
                shape = ("meets", (worths[0], ("joins", worths[1:])))
                found = found or worth_by_plans(lattice, Tree(shape), "joins") != plain.worth_of(shape)
            self.assertTrue(found)
        shape = Tree(("meets", (1, ("joins", (2, 3)))))
        self.exactly(worth_by_plans(diamond_lattice(), shape, "joins"), 0)

    def test_bad_holders(self):
        wide = Tree(("meets", (("joins", (1, 1)),) * 20))
        for holder in NO_HOLDERS:
            for tree in (Tree(1), wide):
                self.refused(BadHolder, {"holder": holder}, all_plans, tree, holder)
                self.refused(BadHolder, {"holder": holder}, worth_by_plans, chain_lattice(2), tree, holder)


class TestPlanFor(Case):
    def test_in_every_lattice(self):
        for lattice in LATTICES:
            plain = Plain(lattice)
            for shape in some_shapes(lattice, "plan", 14):
                for prime in own_firm(plain):
                    plan = plan_for(lattice, Tree(shape), prime)
                    self.assertIsInstance(plan, Plan)
                    self.exactly((plan.holder, plan.certificate), own_plan(plain, lattice, shape, prime))
                    self.exactly(judge_certificate(lattice, Tree(shape), plan.certificate, kind(plan.holder)), None)
                    self.exactly(plan_fault(lattice, Tree(shape), prime, plan), None)

    def test_exactly_one_holder_has_plans(self):
        for lattice in (pentagon_lattice(), set_lattice(2), chain_lattice(4)):
            plain = Plain(lattice)
            for shape in [("meets", (1, ("joins", (2, 1)))), EXAMPLE, ("joins", (("meets", (0, 1)), 2))]:
                for prime in own_firm(plain):
                    holders = set()
                    for holder in HOLDERS:
                        bound = prime if holder == "joins" else rival_of(lattice, prime)
                        for part in self.choices(shape, holder, bound):
                            if plan_fault(lattice, Tree(shape), prime, Plan(holder, part)) is None:
                                holders.add(holder)
                    self.assertEqual(holders, {plan_for(lattice, Tree(shape), prime).holder})

    def choices(self, shape, holder, bound):
        """All parts with this bound that pick one child at own nodes and all at foreign ones."""
        if isinstance(shape, int):
            return [(bound, ())]
        rows = [[(at, part) for part in self.choices(child, holder, bound)] for at, child in enumerate(shape[1])]
        if shape[0] == holder:
            return [(bound, (couple,)) for row in rows for couple in row]
        return [(bound, couples) for couples in itertools.product(*rows)]

    def test_example(self):
        plan = plan_for(set_lattice(2), Tree(EXAMPLE), 2)
        self.assertEqual(plan, Plan("joins", (2, ((1, (2, ((0, (2, ())), (1, (2, ()))))),))))
        plan = plan_for(set_lattice(2), Tree(("joins", (1, ("meets", (3, 0))))), 2)
        self.assertEqual(plan, Plan("meets", (1, ((0, (1, ())), (1, (1, ((1, (1, ())),)))))))

    def test_refusals(self):
        plan = Plan("joins", None)
        for lattice in LATTICES:
            plain = Plain(lattice)
            firm = own_firm(plain)
            for worth in plain.worths:
                if worth not in firm:
                    self.refused(NotPrime, {"worth": worth}, plan_for, lattice, Tree(0), worth)
                    self.refused(NotPrime, {"worth": worth}, plan_fault, lattice, Tree(0), worth, plan)
            for worth in (-1, lattice.size) + NO_NUMBERS:
                self.refused(NoWorth, {"worth": worth}, plan_for, lattice, Tree(0), worth)
                self.refused(NoWorth, {"worth": worth}, plan_fault, lattice, Tree(0), worth, Plan(None, None))


class TestPlanFault(Case):
    def fuller(self, plain, shape, plan):
        """A certificate that names all children that reach the bound, at own nodes too."""
        bound = plan.certificate[0]
        if isinstance(shape, int):
            return plan.certificate
        named = [at for at, child in enumerate(shape[1]) if reaches(plain, kind(plan.holder), bound, plain.worth_of(child))]
        parts = [(at, self.fuller(plain, shape[1][at], Plan(plan.holder, (bound, ())))) for at in named]
        return (bound, tuple(parts))

    def test_bent_plans(self):
        told = {}
        for lattice in LATTICES:
            plain, draw = Plain(lattice), random.Random(lattice.size)
            for shape in some_shapes(lattice, "fault", 10):
                for prime in own_firm(plain):
                    for _ in range(8):
                        right = plan_for(lattice, Tree(shape), prime)
                        holder = draw.choice(HOLDERS) if draw.random() < 0.2 else right.holder
                        certificate = draw.choice((right.certificate, self.fuller(plain, shape, right),
                                                   bent(draw, plain, right.certificate)))
                        plan, before = Plan(holder, certificate), repr(certificate)
                        fault = own_fault(plain, lattice, shape, prime, plan)
                        self.exactly(plan_fault(lattice, Tree(shape), prime, plan), fault)
                        self.exactly((plan.holder, repr(plan.certificate)), (holder, before))
                        told[fault and fault[1]] = told.get(fault and fault[1], 0) + 1
        self.assertEqual(set(told), {None, "form", "child", "bound", "choice"})
        self.assertTrue(min(told.values()) > 8, told)

    def test_examples(self):
        lattice, tree = set_lattice(2), Tree(EXAMPLE)

        def judged(holder, certificate, fault):
            self.exactly(plan_fault(lattice, tree, 2, Plan(holder, certificate)), fault)
            self.exactly(plan_fault(lattice, tree, 2, Plan(holder, as_lists(certificate))), fault)
        right = (2, ((1, (2, ((0, (2, ())), (1, (2, ()))))),))
        judged("joins", right, None)
        for holder in NO_HOLDERS:
            judged(holder, right, ((), "holder"))
            judged(holder, None, ((), "holder"))
        judged("meets", right, ((), "bound"))
        judged("joins", None, ((), "form"))
        judged("joins", (2, ((1, (2, ((0, (2, ())),))),)), ((1,), "bound"))
        judged("joins", (0, ()), ((), "bound"))
        judged("joins", (2, ((0, (0, ())), (1, right[1][0][1]))), ((), "choice"))
        judged("joins", (2, ((1, (2, ((0, (2, ())), (1, (3, ()))))),)), ((1, 1), "bound"))
        judged("joins", (2, ((0, (2, ())), (1, right[1][0][1]))), ((0,), "bound"))
        # The bound goes ahead of the choice, the node ahead of those beneath it.
        judged("joins", (0, ((0, (0, ())), (1, (0, ())))), ((), "bound"))
        judged("joins", (2, ((0, (0, ((0, (1, ())),))), (1, right[1][0][1]))), ((), "choice"))

    def test_choices(self):
        lattice = chain_lattice(3)
        tree = Tree(("meets", (2, ("joins", (1, 2)), 1)))

        def judged(prime, holder, certificate, fault):
            self.exactly(plan_fault(lattice, tree, prime, Plan(holder, certificate)), fault)
        leaf = (1, ())
        judged(1, "joins", (1, ((0, leaf), (1, (1, ((0, leaf),))), (2, leaf))), None)
        judged(1, "joins", (1, ((0, leaf), (1, (1, ((1, leaf),))), (2, leaf))), None)
        judged(1, "joins", (1, ((0, leaf), (1, (1, ((0, leaf), (1, leaf)))), (2, leaf))), ((1,), "choice"))
        judged(2, "meets", (1, ((2, leaf),)), None)
        judged(2, "meets", (1, ((1, (1, ((0, leaf), (1, (1, ()))))),)), ((1, 1), "bound"))
        judged(2, "meets", (1, ((0, (2, ())), (2, leaf))), ((), "choice"))
        one = chain_lattice(2)
        self.exactly(plan_fault(one, Tree(("joins", (0, 0))), 1, Plan("meets", (0, ((0, (0, ())), (1, (0, ())))))), None)
        # A ceiling cannot be shown without the other children, nor a floor where foreign ones are missing.
        self.exactly(plan_fault(one, Tree(("joins", (0, 0))), 1, Plan("meets", (0, ((0, (0, ())),)))), ((), "bound"))
        self.exactly(plan_fault(one, Tree(("joins", (0, 0))), 1, Plan("joins", (1, ()))), ((), "bound"))


class TestWalks(Case):
    def test_against_the_definition(self):
        for lattice in LATTICES:
            plain, draw = Plain(lattice), random.Random(lattice.size)
            for shape in some_shapes(lattice, "walks", 12):
                tree = Tree(shape)
                for prime in own_firm(plain):
                    plan = plan_for(lattice, tree, prime)
                    ends = set()
                    for _ in range(12):
                        picks = [draw.randrange(draw.choice((3, 100))) for _ in range(draw.randrange(6))]
                        road = walk_plan(tree, plan, draw.choice((picks, tuple(picks))))
                        self.exactly(road, self.walk(shape, plan, picks))
                        leaf = tree.leaves.index(tree.node_at(road))
                        missed = plain.table[prime][tree.worths[leaf]] != (plan.holder == "joins")
                        self.assertFalse(missed)
                        ends.add(leaf)
                    found = plan_ends(tree, plan)
                    self.exactly(found, tuple(self.ends(shape, plan)))
                    self.assertTrue(ends <= set(found))

    def walk(self, shape, plan, picks):
        road, part, picks = (), plan.certificate, list(picks)
        while not isinstance(shape, int):
            named = dict(part[1])
            if shape[0] == plan.holder:
                child, = named
            else:
                child = (picks.pop(0) if picks else 0) % len(shape[1])
            road, shape, part = road + (child,), shape[1][child], named[child]
        return road

    def ends(self, shape, plan):
        roads = [road for road, _ in leaf_rows(shape)]

        def look(part, shape, road):
            if isinstance(shape, int):
                return [roads.index(road)]
            return [leaf for child, inner in part[1] for leaf in look(inner, shape[1][child], road + (child,))]
        return sorted(look(plan.certificate, shape, ()))

    def test_examples(self):
        tree = Tree(EXAMPLE)
        plan = plan_for(set_lattice(2), tree, 2)
        self.exactly([walk_plan(tree, plan, picks) for picks in ((), (0,), (1,), [5], (2, 9), [10 ** 30 + 1])],
                     [(1, 0), (1, 0), (1, 1), (1, 1), (1, 0), (1, 1)])
        self.exactly(plan_ends(tree, plan), (2, 3))
        lists = Plan("joins", as_lists(plan.certificate))
        self.exactly((walk_plan(tree, lists, (1,)), plan_ends(tree, lists)), ((1, 1), (2, 3)))
        self.exactly((walk_plan(Tree(1), Plan("joins", (1, ())), (3,)), plan_ends(Tree(1), Plan("joins", (1, ())))), ((), (0,)))
        # Bounds that are neutral are met, too.
        chain = chain_lattice(2)
        plan = plan_for(chain, Tree(("joins", (0, 0))), 1)
        self.exactly((plan.holder, plan_ends(Tree(("joins", (0, 0))), plan)), ("meets", (0, 1)))

    def test_bad_picks(self):
        tree = Tree(EXAMPLE)
        plan = plan_for(set_lattice(2), tree, 2)
        for picks in NO_SEQUENCES:
            self.refused(BadPicks, {"index": -1}, walk_plan, tree, plan, picks)
        for pick in (-1,) + NO_NUMBERS:
            self.refused(BadPicks, {"index": 0}, walk_plan, tree, plan, (pick,))
            self.refused(BadPicks, {"index": 2}, walk_plan, tree, plan, [0, 1, pick, -1])


class TestPlan(Case):
    def test_a_result(self):
        self.assertEqual(Plan("joins", (1, ())), Plan("joins", (1, ())))
        for other in (Plan("meets", (1, ())), Plan("joins", (2, ())), ("joins", (1, ())), None):
            self.assertNotEqual(Plan("joins", (1, ())), other)
        things = [object(), [1]]
        self.assertIs(Plan(*things).holder, things[0])
        self.assertIs(Plan(*things).certificate, things[1])
