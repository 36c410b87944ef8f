"""Policies and plays [14.9] to [14.11]."""

import itertools
import random

from cutworths.errors import BadPicks, NotPrime, NoWorth
from cutworths.making import diamond_lattice, set_lattice
from cutworths.playing import Play, Policy, play_by, policy_fault, policy_for
from cutworths.webs import Web
from tests.base import NO_NUMBERS, NO_SEQUENCES, Case
from tests.games import lively_games, own_next, own_shape, own_worth, plain_rules
from tests.growing import LATTICES, Plain
from tests.test_goals import own_firm
from tests.test_plans import NO_HOLDERS

GAMES = {lattice.size: lively_games(lattice.size, 4, 120, 8, min(3, lattice.size)) for lattice in LATTICES}


def misses(plain, prime, holder, worth):
    return not plain.table[prime][worth] if holder == "joins" else plain.table[prime][worth]


def is_own(web, holder, number):
    return web.ends[number] is None and web.positions[number][1] == ("joins", "meets").index(holder)


def met_by(web, policy):
    """The positions met, by [14.9]; an own position without a place leads on nowhere."""
    found, waiting = {0}, [0]
    while waiting:
        number = waiting.pop()
        nexts = web.nexts[number]
        if is_own(web, policy.holder, number):
            choice = policy.choices[number]
            fits = isinstance(choice, int) and not isinstance(choice, bool) and 0 <= choice < len(nexts)
            nexts = [nexts[choice]] if fits else []
        waiting.extend(behind for behind in nexts if behind not in found)
        found.update(nexts)
    return sorted(found)


def own_fault(plain, web, policy):
    """The fault of a policy, straight from [14.10]."""
    if policy.holder not in ("joins", "meets"):
        return (0, "holder")
    if len(policy.choices) != len(web):
        return (0, "choices")
    for number in met_by(web, policy):
        choice, many = policy.choices[number], len(web.nexts[number])
        if is_own(web, policy.holder, number):
            if not isinstance(choice, int) or isinstance(choice, bool) or not 0 <= choice < many:
                return (number, "choice")
        elif web.ends[number] is not None and misses(plain, policy.prime, policy.holder, web.ends[number]):
            return (number, "end")
    return None


class TestPolicyFor(Case):
    def test_in_every_lattice(self):
        for lattice in LATTICES:
            plain = Plain(lattice)
            for rules, start in GAMES[lattice.size]:
                web = Web(rules, start)
                worths = [plain.worth_of(own_shape(rules, position)) for position in web.positions]
                for prime in own_firm(plain):
                    policy = policy_for(lattice, web, prime)
                    self.assertIsInstance(policy, Policy)
                    holder = "joins" if plain.table[prime][worths[0]] else "meets"
                    self.exactly((policy.prime, policy.holder), (prime, holder))
                    met = met_by(web, policy)
                    for number, choice in enumerate(policy.choices):
                        right = None
                        if number in met and is_own(web, holder, number):
                            right = min(at for at, behind in enumerate(web.nexts[number])
                                        if not misses(plain, prime, holder, worths[behind]))
                        self.exactly(choice, right)
                    self.exactly(policy_fault(lattice, web, policy), None)

    def test_a_position_that_is_over(self):
        rules = plain_rules()
        web = Web(rules, (("", "", "dot", "ant"), 0, 2))
        self.assertEqual(policy_for(set_lattice(2), web, 1), Policy(1, "joins", (None,)))
        web = Web(rules, (("", "dot", "", "ant"), 0, 0))
        self.assertEqual(policy_for(set_lattice(2), web, 1), Policy(1, "meets", (None,)))

    def test_refusals(self):
        rules, start = GAMES[5][0]
        web = Web(rules, start)
        for lattice in [lattice for lattice in LATTICES if lattice.size == 5] + [diamond_lattice()]:
            plain = Plain(lattice)
            firm = own_firm(plain)
            for worth in plain.worths:
                if worth not in firm:
                    self.refused(NotPrime, {"worth": worth}, policy_for, lattice, web, worth)
                    self.refused(NotPrime, {"worth": worth}, policy_fault, lattice, web, Policy(worth, None, ()))
            for worth in (-1, 5, 10 ** 20) + NO_NUMBERS:
                self.refused(NoWorth, {"worth": worth}, policy_for, lattice, web, worth)
                self.refused(NoWorth, {"worth": worth}, policy_fault, lattice, web, Policy(worth, None, ()))


class TestPolicyFault(Case):
    def test_bent_policies(self):
        told = {}
        for lattice in LATTICES:
            plain, draw = Plain(lattice), random.Random(lattice.size)
            for rules, start in GAMES[lattice.size]:
                web = Web(rules, start)
                for prime in own_firm(plain):
                    for _ in range(8):
                        right = policy_for(lattice, web, prime)
                        choices, holder = list(right.choices), right.holder
                        for _ in range(draw.choice((0, 1, 1, 3, 30))):
                            at = draw.randrange(len(choices))
                            choices[at] = draw.choice((None, -1, 0, 0, 1, 1, 2, True, False, "0", 1.0, 99))
                        if draw.random() < 0.1:
                            holder = draw.choice(("joins", "meets", None))
                        if draw.random() < 0.05:
                            choices = draw.choice((choices[1:], choices + [None]))
                        policy = Policy(prime, holder, choices)
                        fault = own_fault(plain, web, policy)
                        self.exactly(policy_fault(lattice, web, policy), fault)
                        told[fault and fault[1]] = told.get(fault and fault[1], 0) + 1
        self.assertEqual(set(told), {None, "holder", "choices", "choice", "end"})
        self.assertTrue(min(told.values()) > 8, told)

    def test_exactly_one_holder_has_policies(self):
        for lattice in LATTICES[1:]:
            plain, draw = Plain(lattice), random.Random(lattice.size)
            rules, start = GAMES[lattice.size][0]
            web = Web(rules, start)
            for prime in own_firm(plain):
                right = policy_for(lattice, web, prime).holder
                other = {"joins": "meets", "meets": "joins"}[right]
                for _ in range(20):
                    choices = [draw.randrange(len(nexts)) if nexts else None for nexts in web.nexts]
                    self.assertIsNotNone(policy_fault(lattice, web, Policy(prime, other, choices)))

    def test_all_policies_of_a_small_game(self):
        rules, start = min(GAMES[4], key=lambda pair: len(Web(*pair)))
        lattice, plain, web = set_lattice(2), Plain(set_lattice(2)), Web(rules, start)
        for prime in (1, 2):
            for holder in ("joins", "meets"):
                rows = [list(range(len(nexts))) if is_own(web, holder, number) else [None]
                        for number, nexts in enumerate(web.nexts)]
                found = set()
                for choices in itertools.islice(itertools.product(*rows), 300):
                    policy = Policy(prime, holder, choices)
                    fault = own_fault(plain, web, policy)
                    self.exactly(policy_fault(lattice, web, policy), fault)
                    found.add(fault)
                if policy_for(lattice, web, prime).holder != holder:
                    self.assertNotIn(None, found)

    def test_holders_and_choices(self):
        lattice, (rules, start) = set_lattice(2), GAMES[4][0]
        web = Web(rules, start)
        for holder in NO_HOLDERS:
            self.exactly(policy_fault(lattice, web, Policy(1, holder, ())), (0, "holder"))
            self.exactly(policy_fault(lattice, web, Policy(1, holder, (None,) * len(web))), (0, "holder"))
        for holder in ("joins", "meets"):
            for choices in (None, 3, "ab", {}):
                self.exactly(policy_fault(lattice, web, Policy(1, holder, choices)), (0, "choices"))
            for many in (0, len(web) - 1, len(web) + 1):
                self.exactly(policy_fault(lattice, web, Policy(1, holder, (0,) * many)), (0, "choices"))

    def test_positions_that_are_not_met_are_free(self):
        lattice, (rules, start) = set_lattice(2), GAMES[4][1]
        web = Web(rules, start)
        for prime in (1, 2):
            right = policy_for(lattice, web, prime)
            met = met_by(web, right)
            choices = [choice if number in met and is_own(web, right.holder, number) else "any"
                       for number, choice in enumerate(right.choices)]
            self.exactly(policy_fault(lattice, web, Policy(prime, right.holder, choices)), None)


class TestPlays(Case):
    def test_in_every_lattice(self):
        for lattice in LATTICES:
            plain, draw = Plain(lattice), random.Random(lattice.size)
            for rules, start in GAMES[lattice.size]:
                web = Web(rules, start)
                for prime in own_firm(plain):
                    policy = policy_for(lattice, web, prime)
                    for _ in range(5):
                        picks = [draw.randrange(draw.choice((3, 100))) for _ in range(draw.randrange(5))]
                        play = play_by(web, policy, draw.choice((picks, tuple(picks))))
                        self.assertIsInstance(play, Play)
                        self.exactly((play.road, play.numbers, play.worth), self.played(rules, start, web, policy, picks))
                        self.assertFalse(misses(plain, prime, policy.holder, play.worth))

    def played(self, rules, start, web, policy, picks):
        road, position, left = (), start, list(picks)
        numbers = [0]
        while own_worth(rules, position) is None:
            behind = own_next(rules, position)
            if policy.holder == ("joins", "meets")[position[1]]:
                at = policy.choices[numbers[-1]]
            else:
                at = (left.pop(0) if left else 0) % len(behind)
            road, position = road + (at,), behind[at]
            numbers.append(web.positions.index(position))
        return road, tuple(numbers), own_worth(rules, position)

    def test_over_from_the_start(self):
        web = Web(plain_rules(), (("", "", "dot", "ant"), 0, 2))
        self.assertEqual(play_by(web, policy_for(set_lattice(2), web, 1), (5,)), Play((), (0,), 3))

    def test_bad_picks(self):
        lattice, (rules, start) = set_lattice(2), GAMES[4][0]
        web = Web(rules, start)
        policy = policy_for(lattice, web, 1)
        for picks in NO_SEQUENCES:
            self.refused(BadPicks, {"index": -1}, play_by, web, policy, picks)
        for pick in (-1,) + NO_NUMBERS:
            self.refused(BadPicks, {"index": 0}, play_by, web, policy, (pick,))
            self.refused(BadPicks, {"index": 2}, play_by, web, policy, [0, 1, pick, -1])


class TestResults(Case):
    def test_policy(self):
        choices = [0, None]
        policy = Policy(1, "joins", choices)
        self.exactly(policy.choices, (0, None))
        choices.append(2)
        self.exactly(policy.choices, (0, None))
        self.assertEqual(policy, Policy(1, "joins", (0, None)))
        for other in (Policy(2, "joins", (0, None)), Policy(1, "meets", (0, None)), Policy(1, "joins", (0,)),
                      (1, "joins", (0, None)), None):
            self.assertNotEqual(policy, other)
        things = [object(), [1]]
        self.assertIs(Policy(*things, ()).prime, things[0])
        self.assertIs(Policy(*things, ()).holder, things[1])
        # Results check nothing.
        self.assertIs(Policy(*things, things[0]).choices, things[0])

    def test_play(self):
        self.assertEqual(Play((0,), (0, 1), 2), Play((0,), (0, 1), 2))
        for other in (Play((1,), (0, 1), 2), Play((0,), (0, 2), 2), Play((0,), (0, 1), 3), ((0,), (0, 1), 2), None):
            self.assertNotEqual(Play((0,), (0, 1), 2), other)
        things = [object(), [1], {}]
        for thing, name in zip(things, ("road", "numbers", "worth")):
            self.assertIs(getattr(Play(*things), name), thing)
