"""Webs of positions, and worths settled in any order [6.8] to [6.11]."""

import random

from cutworths.errors import NoNumber, NotInWeb, TooMany
from cutworths.lattices import Lattice
from cutworths.making import chain_lattice
from cutworths.trees import plain_worth, tree_of
from cutworths.webs import Settling, Web, count_plays, plays_from, ways_to, web_worths, worth_by_positions
from tests.base import DIAMOND_AND_TWO, HEXAGON, NO_NUMBERS, PENTAGON, Case
from tests.edges import PLAYS_4000, PLAYS_MANY, POSITIONS_400, POSITIONS_401, game
from tests.games import (lively_games, lively_rules, own_next, own_plays, own_worth, plain_rules,
                         small_games)
from tests.growing import LATTICES, Plain

GAMES = small_games(range(200), 300, 2) + small_games(range(30), 1) + lively_games(5, 20) + lively_games(6, 20)


def own_web(rules, start):
    """The positions of a web in the order of [6.8]."""
    found, waiting = set(), [start]
    while waiting:
        position = waiting.pop()
        if position not in found:
            found.add(position)
            waiting.extend(own_next(rules, position))
    return tuple(sorted(found, key=lambda position: (-position[2], position)))


def lattices_for(rules):
    """The lattices that may stand beside rules."""
    return [lattice for lattice in LATTICES if lattice.size == rules.worths] or [chain_lattice(rules.worths)]


def roads_to(rules, position):
    """Each position of a game with the number of roads to it, by going along all of them."""
    many = {position: 1}
    for behind in own_next(rules, position):
        for reached, more in roads_to(rules, behind).items():
            many[reached] = many.get(reached, 0) + more
    return many


class TestWeb(Case):
    def test_attributes(self):
        self.assertGreater(len(GAMES), 60)
        for rules, start in GAMES:
            web = Web(rules, start)
            positions = own_web(rules, start)
            self.exactly(web.positions, positions)
            self.exactly(web.nexts, tuple(tuple(positions.index(behind) for behind in own_next(rules, position))
                                          for position in positions))
            self.exactly(web.ends, tuple(own_worth(rules, position) for position in positions))
            self.exactly(len(web), len(positions))
            lefts = [position[2] for position in positions]
            self.exactly(web.levels, tuple(tuple(number for number, left in enumerate(lefts) if left == many)
                                           for many in sorted(set(lefts), reverse=True)))
            for number, position in enumerate(positions):
                self.exactly(web.number_of(position), number)

    def test_a_position_that_is_over(self):
        over = (("", "", "dot", "ant"), 0, 2)
        web = Web(plain_rules(), over)
        self.exactly((web.positions, web.nexts, web.ends, web.levels, len(web)), ((over,), ((),), (3,), ((0,),), 1))

    def test_not_in_the_web(self):
        rules = plain_rules()
        start = (("dot", "", "", "ant"), 0, 2)
        web = Web(rules, start)
        for position in ((("dot", "", "", "ant"), 0, 1), (("dot", "", "", "ant"), 1, 2), (("dot", "", "", ""), 0, 2),
                         [("dot", "", "", "ant"), 0, 2], (["dot", "", "", "ant"], 0, 2), None, 0, (), "x"):
            self.refused(NotInWeb, {"position": position}, web.number_of, position)
        self.exactly(web.number_of((("dot", "", "", "ant"), False, 2.0)), 0)

    def test_the_most_positions(self):
        rules, start = game(POSITIONS_400)
        self.exactly(len(Web(rules, start)), 400)
        self.exactly(count_plays(rules, start), len(own_plays(rules, start)))
        for text in (POSITIONS_401, PLAYS_MANY):
            rules, start = game(text)
            self.refused(TooMany, {"most": 400}, Web, rules, start)
            self.refused(TooMany, {"most": 400}, worth_by_positions, chain_lattice(4), rules, start)
            self.refused(TooMany, {"most": 400}, count_plays, rules, start)


class TestWorths(Case):
    def test_every_position(self):
        for rules, start in GAMES:
            for lattice in lattices_for(rules):
                plain = Plain(lattice)
                web = Web(rules, start)
                worths = {}
                for position in web.positions[::-1]:
                    worth = own_worth(rules, position)
                    if worth is None:
                        behind = [worths[reached] for reached in own_next(rules, position)]
                        worth = plain.all_of(("joins", "meets")[position[1]], behind)
                    worths[position] = worth
                self.exactly(web_worths(lattice, web), tuple(worths[position] for position in web.positions))
                self.exactly(worth_by_positions(lattice, rules, start), worths[start])
                self.exactly(worth_by_positions(lattice, rules, start), plain_worth(lattice, tree_of(rules, start)))

    def test_lattices_that_are_not_distributive(self):
        for table in (DIAMOND_AND_TWO, PENTAGON, HEXAGON):
            lattice = Lattice(table)
            for seed in range(20):
                rules = lively_rules(seed, lattice.size)
                start = (rules.start, rules.side, 3)
                self.exactly(worth_by_positions(lattice, rules, start), plain_worth(lattice, tree_of(rules, start)))


class TestCounts(Case):
    def test_ways_and_plays(self):
        for rules, start in GAMES:
            web = Web(rules, start)
            many = roads_to(rules, start)
            self.exactly(ways_to(web), tuple(many[position] for position in web.positions))
            self.exactly(plays_from(web), tuple(len(own_plays(rules, position)) for position in web.positions))
            self.exactly(count_plays(rules, start), len(own_plays(rules, start)))

    def test_each_level_counts_all_plays(self):
        for text in (PLAYS_4000, POSITIONS_400):
            rules, start = game(text)
            web = Web(rules, start)
            ways, plays = ways_to(web), plays_from(web)
            over = 0
            self.assertGreater(len(web.levels), 4)
            for level in web.levels:
                self.exactly(sum(ways[number] * plays[number] for number in level) + over, count_plays(rules, start))
                over += sum(ways[number] for number in level if web.ends[number] is not None)


class TestSettling(Case):
    def own_order(self, web, numbers):
        """The order in which positions are settled."""
        order = []

        def settle(number):
            if number not in order:
                for behind in web.nexts[number]:
                    settle(behind)
                order.append(number)
        for number in numbers:
            settle(number)
        return tuple(order)

    def test_any_order(self):
        draw = random.Random(4)
        for rules, start in GAMES[:60]:
            lattice = lattices_for(rules)[-1]
            web = Web(rules, start)
            worths = web_worths(lattice, web)
            numbers = [draw.randrange(len(web)) for _ in range(2 * len(web))] + list(range(len(web)))
            settling = Settling(lattice, web)
            self.exactly(settling.settled_order, ())
            for many, number in enumerate(numbers):
                self.exactly(settling.is_done, len(settling.settled_order) == len(web))
                settled = settling.settled_order
                self.exactly(settling.ready_now(), tuple(
                    one for one in range(len(web))
                    if one not in settled and all(behind in settled for behind in web.nexts[one])))
                self.exactly(settling.settle_one(number), worths[number])
                self.exactly(settling.settled_order, self.own_order(web, numbers[:many + 1]))
            self.exactly((settling.is_done, settling.ready_now()), (True, ()))
            self.assertEqual(web_worths(lattice, web), worths)

    def test_no_number(self):
        rules = plain_rules()
        web = Web(rules, (("dot", "", "", "ant"), 0, 2))
        settling = Settling(chain_lattice(4), web)
        for number in (-1, len(web), 10 ** 20) + NO_NUMBERS:
            self.refused(NoNumber, {"number": number}, settling.settle_one, number)
        self.exactly((settling.settled_order, settling.is_done), ((), False))
