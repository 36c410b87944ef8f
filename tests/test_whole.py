"""What the document promises over the whole program [0.2], [0.3], [0.7], [14.10], [16.14]: the parts tied together."""

import random

from cutworths.askers import Asking, finish_asking, run_asking
from cutworths.bars import bar_game, guarded_search, wrong_cut
from cutworths.certificates import both_from, certificate_from, cited_leaves, fewest_certificate
from cutworths.cutting import cut_search, parent_search
from cutworths.desk import Desk
from cutworths.engine import Engine
from cutworths.enough import is_enough
from cutworths.errors import WorthError
from cutworths.goals import ask_prime, stepped_play, stepped_worth, worth_by_primes
from cutworths.grounds import GameGround, TreeGround, plain_told
from cutworths.hanging import hanging_leaves
from cutworths.judge import judge_both
from cutworths.kepts import memory_search
from cutworths.memory import Memory
from cutworths.plans import all_plans, plan_ends, plan_for, worth_by_plans
from cutworths.playing import policy_fault, policy_for
from cutworths.roads import plays_of
from cutworths.spans import Spans
from cutworths.stories import put_away, taken_up
from cutworths.trees import Tree, plain_worth, tree_of
from cutworths.weaving import Weaving, woven_by
from cutworths.webs import Web, worth_by_positions
from tests.base import Case
from tests.games import lively_games, own_shape
from tests.growing import DISTRIBUTIVE, LATTICES, OTHERS, Plain, leaf_rows, some_shapes
from tests.test_goals import own_firm


class TestCertified(Case):
    def check(self, lattice, shape, lot):
        """Both certificates of the lot are accepted for the worth and for no other one."""
        plain, tree = Plain(lattice), Tree(shape)
        self.assertTrue(is_enough(lattice, tree, lot))
        floor, ceiling = both_from(lattice, tree, lot)
        for worth in plain.worths:
            right = worth == plain.worth_of(shape)
            self.exactly(judge_both(lattice, tree, floor, ceiling, worth), right)
            # Nothing else is accepted for another worth: a standing bound is reached by the true one.
            for which, at in (("floor", 0), ("ceiling", 1)):
                found = fewest_certificate(lattice, tree, worth, which)
                reached = plain.table[worth][plain.worth_of(shape)] if at == 0 else plain.table[plain.worth_of(shape)][worth]
                self.exactly(found is not None, reached)

    def test_asked_in_any_order(self):
        for lattice in DISTRIBUTIVE:
            draw = random.Random(lattice.size)
            for shape in some_shapes(lattice, "certified", 8):
                asking = Asking(lattice, Tree(shape))
                run_asking(asking, [draw.randrange(50) for _ in range(draw.randrange(12))])
                finish_asking(asking)
                self.exactly(asking.root_told(), Plain(lattice).worth_of(shape))
                self.check(lattice, shape, asking.asked)
                self.check(lattice, shape, cut_search(lattice, Tree(shape)).asked)

    def test_woven_put_away_and_cut_off(self):
        for lattice in DISTRIBUTIVE:
            draw = random.Random(lattice.size)
            for shape in some_shapes(lattice, "woven whole", 8):
                tree, roads = Tree(shape), [road for road, _ in leaf_rows(shape)]
                weaving = Weaving(lattice, TreeGround(tree), draw.randrange(4), 3)
                for _ in range(3000):
                    if weaving.is_done:
                        break
                    weaving.turn_hand(draw.randrange(3))
                    if draw.random() < 0.2:
                        weaving = Weaving.taken_up(lattice, TreeGround(tree), weaving.put_away())
                self.exactly(weaving.woven_worth(), plain_worth(lattice, tree))
                self.check(lattice, shape, [roads.index(road) for road in weaving.asked])
                engine = Engine(lattice, TreeGround(tree))
                while not engine.ended:
                    engine.go_steps(draw.randrange(4))
                    engine = Engine.gone_on(lattice, TreeGround(tree), engine.cut_text())
                self.check(lattice, shape, [roads.index(road) for road in engine.asked])

    def test_guarded_in_every_lattice(self):
        for lattice in LATTICES:
            for shape in some_shapes(lattice, "guarded whole", 10) + ([bar_game(lattice).shape] if lattice in OTHERS else []):
                tree = Tree(shape)
                lot = guarded_search(lattice, tree).asked
                for which in ("floor", "ceiling"):
                    self.exactly(certificate_from(lattice, tree, lot, which)[0], plain_worth(lattice, tree))


class TestAllWaysTellOneWorth(Case):
    def test_games_over_distributive_lattices(self):
        for lattice in DISTRIBUTIVE:
            draw = random.Random(lattice.size)
            for rules, start in lively_games(lattice.size, 3, 80, 6, min(3, lattice.size)):
                worth = Plain(lattice).worth_of(own_shape(rules, start))
                ground, tree = GameGround(rules, start), tree_of(rules, start)
                root = (lattice.bottom, lattice.top)
                told = [plain_worth(lattice, tree), worth_by_positions(lattice, rules, start), plain_told(lattice, ground, start),
                        cut_search(lattice, tree).worth, parent_search(lattice, tree).worth,
                        memory_search(lattice, rules, start, root, Memory(lattice, 5)).worth,
                        Engine(lattice, ground, None, Spans(lattice)).finish_all(),
                        woven_by(lattice, ground, 2, 3, (), Memory(lattice, 9, rule="by draw", picks=(1, 5) * 9)).woven_worth(),
                        worth_by_primes(lattice, tree).worth, stepped_worth(lattice, tree, draw.randrange(lattice.size)).worth,
                        stepped_play(lattice, rules, start, 0, Memory(lattice, 20)).worth,
                        Desk(lattice, rules).do_deed(("worth",)), Desk(lattice, rules, 0).do_deed(("ask", 400))[1],
                        Desk(lattice, rules).do_deed(("hands", 1, 2, (1, 1, 0)))[1]]
                if len(tree) <= 12:
                    told.extend(worth_by_plans(lattice, tree, holder) for holder in ("joins", "meets"))
                self.exactly(told, [worth] * len(told))

    def test_plans_and_policies_have_one_holder(self):
        for lattice in LATTICES:
            plain = Plain(lattice)
            for rules, start in lively_games(lattice.size, 3, 80, 6, min(3, lattice.size)):
                tree, web, worth = tree_of(rules, start), Web(rules, start), plain.worth_of(own_shape(rules, start))
                ends = [worth for _, worth in plays_of(rules, start)]
                for prime in own_firm(plain):
                    holder = "joins" if plain.table[prime][worth] else "meets"
                    plan, policy = plan_for(lattice, tree, prime), policy_for(lattice, web, prime)
                    self.exactly((plan.holder, policy.holder), (holder, holder))
                    self.exactly(policy_fault(lattice, web, policy), None)
                    self.exactly(ask_prime(lattice, tree, prime).yes, holder == "joins")
                    self.assertTrue(all(plain.table[prime][ends[leaf]] == (holder == "joins")
                                        for leaf in plan_ends(tree, plan)))
                    if len(tree) <= 12:
                        self.assertIn(plan_ends(tree, plan), all_plans(tree, holder))
                    kind = "floor" if holder == "joins" else "ceiling"
                    neutral = plain.bottom if kind == "floor" else plain.top
                    if plan.certificate[0] != neutral:
                        self.exactly(cited_leaves(lattice, tree, plan.certificate, kind), plan_ends(tree, plan))

    def test_what_the_search_asks(self):
        for lattice in DISTRIBUTIVE:
            plain = Plain(lattice)
            for shape in some_shapes(lattice, "asks whole", 10):
                tree = Tree(shape)
                asked = cut_search(lattice, tree).asked
                self.exactly(asked, hanging_leaves(lattice, tree))
                by_primes = {leaf for prime in own_firm(plain) for leaf in ask_prime(lattice, tree, prime).asked}
                self.exactly(asked, tuple(sorted(by_primes)))
                self.exactly(wrong_cut(lattice, tree), None)


class TestDesksGoneOnWith(Case):
    def test_cut_off_at_every_step(self):
        for lattice in DISTRIBUTIVE:
            draw = random.Random(lattice.size)
            for rules, start in lively_games(lattice.size, 2, 50, 6, min(3, lattice.size)):
                worth = Plain(lattice).worth_of(own_shape(rules, start))
                desk = Desk(lattice, rules, draw.choice((0, 2, 8)))
                told = None
                while told is None:
                    told = desk.do_deed(("ask", draw.choice((1, 1, 2, 5))))[1]
                    for deed in draw.sample([("worth",), ("forget", 0), ("hands", 1, 2, (1, 0)), ("certificate", "floor")], 2):
                        try:
                            desk.do_deed(deed)
                        except WorthError:
                            pass
                    if told is None and draw.random() < 0.7:
                        desk = taken_up(put_away(desk))
                        desk.do_deed(("go on",))
                self.exactly(told, worth)


class TestEqualArguments(Case):
    def test_equal_results(self):
        for lattice in LATTICES:
            shape = some_shapes(lattice, "equal", 4)[3]
            for call in (cut_search, parent_search, guarded_search, wrong_cut):
                self.assertEqual(call(lattice, Tree(shape)), call(lattice, Tree(shape)))
            for prime in own_firm(Plain(lattice)):
                self.assertEqual(plan_for(lattice, Tree(shape), prime), plan_for(lattice, Tree(shape), prime))
                self.assertEqual(ask_prime(lattice, Tree(shape), prime), ask_prime(lattice, Tree(shape), prime))
