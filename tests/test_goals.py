"""Questions by primes [14.1] to [14.3]."""

import copy
import random

from cutworths.cutting import cut_search
from cutworths.errors import BadGuess, NotPrime, NoWorth
from cutworths.goals import (Answer, Answers, ask_prime, question_of, rival_of, stepped_play, stepped_worth,
                             worth_by_primes)
from cutworths.kepts import memory_fault, memory_search
from cutworths.making import chain_lattice, diamond_lattice, pentagon_lattice, set_lattice
from cutworths.memory import Memory
from cutworths.spans import Spans
from cutworths.trees import Tree
from tests.base import NO_NUMBERS, Case
from tests.edges import PLAYS_4000, game
from tests.games import lively_games, own_shape
from tests.growing import DISTRIBUTIVE, LATTICES, OTHERS, Plain, leaf_rows, some_shapes
from tests.test_engine import kept_in, memories

EXAMPLE = ("joins", (("meets", (1, 3)), ("meets", (2, 3))))


def own_firm(plain):
    """The firm worths, straight from [2.5]."""
    return [p for p in plain.worths if p != plain.bottom
            and all(plain.table[p][x] or plain.table[p][y] for x in plain.worths for y in plain.worths
                    if plain.table[p][plain.join[x][y]])]


def own_primes(plain):
    """The worths with one lower cover."""
    def covers(y):
        below = [x for x in plain.worths if x != y and plain.table[x][y]]
        return [x for x in below if not any(z != x and plain.table[x][z] for z in below)]
    return [y for y in plain.worths if len(covers(y)) == 1]


def yes_no(plain, shape, prime):
    """The yes-no search of [8.6]: whether yes, and the leaves asked."""
    numbers = iter(range(10 ** 6))

    def skip(shape):
        for _ in leaf_rows(shape):
            next(numbers)

    def go(shape):
        if isinstance(shape, int):
            asked.append(next(numbers))
            return plain.table[prime][shape]
        sign, children = shape
        told = sign == "meets"
        for child in children:
            if told == (sign == "meets"):
                told = go(child)
            else:
                skip(child)
        return told
    asked = []
    return go(shape), tuple(asked)


def own_order(plain, guess, ask):
    """The answers of [14.3]: the couples (prime, yes) in the order of asking; without a guess the smallest first."""
    table = plain.table
    answers = []
    while True:
        left = [p for p in own_primes(plain)
                if not any(table[p][q] if yes else table[q][p] for q, yes in answers)]
        if not left:
            return answers
        within = [p for p in left if guess is not None and table[p][guess]]
        if guess is None:
            prime = min(left)
        elif within:
            prime = max(p for p in within if not any(p != q and table[p][q] for q in within))
        else:
            prime = min(p for p in left if not any(p != q and table[q][p] for q in left))
        answers.append((prime, ask(prime)))


def told(answers):
    """The worth and the rows of an Answers."""
    return (answers.worth, [(answer.prime, answer.yes, answer.asked) for answer in answers])


class TestQuestions(Case):
    def test_in_every_lattice(self):
        for lattice in LATTICES:
            plain = Plain(lattice)
            for prime in own_firm(plain):
                missed = [x for x in plain.worths if not plain.table[prime][x]]
                rival = rival_of(lattice, prime)
                self.assertTrue(rival in missed and all(plain.table[x][rival] for x in missed))
                a, b = question_of(lattice, prime)
                below = [x for x in plain.worths if x != prime and plain.table[x][prime]]
                self.exactly((a, b), (plain.all_of("joins", below), prime))
                for worth in plain.worths:
                    self.exactly(plain.led((a, b), worth), prime if plain.table[prime][worth] else a)

    def test_refusals(self):
        calls = (rival_of, question_of, lambda lattice, prime: ask_prime(lattice, Tree(0), prime))
        for lattice in LATTICES:
            plain = Plain(lattice)
            firm = own_firm(plain)
            for call in calls:
                for worth in plain.worths:
                    if worth not in firm:
                        self.refused(NotPrime, {"worth": worth}, call, lattice, worth)
                for worth in (-1, lattice.size, 10 ** 20) + NO_NUMBERS:
                    self.refused(NoWorth, {"worth": worth}, call, lattice, worth)

    def test_examples(self):
        lattice = set_lattice(2)
        self.exactly((rival_of(lattice, 1), rival_of(lattice, 2)), (2, 1))
        self.exactly((question_of(lattice, 1), question_of(lattice, 2)), ((0, 1), (0, 2)))
        self.exactly((rival_of(chain_lattice(4), 2), question_of(chain_lattice(4), 2)), (1, (1, 2)))
        pentagon = pentagon_lattice()
        self.exactly((rival_of(pentagon, 1), rival_of(pentagon, 3)), (3, 2))
        self.refused(NotPrime, {"worth": 2}, rival_of, pentagon, 2)
        for worth in range(5):
            self.refused(NotPrime, {"worth": worth}, question_of, diamond_lattice(), worth)


class TestAskPrime(Case):
    def test_in_every_lattice(self):
        for lattice in LATTICES:
            plain = Plain(lattice)
            for shape in some_shapes(lattice, "prime", 14):
                for prime in own_firm(plain):
                    found = ask_prime(lattice, Tree(shape), prime)
                    self.assertIsInstance(found, Answer)
                    yes, asked = yes_no(plain, shape, prime)
                    self.exactly((found.prime, found.yes, found.asked), (prime, yes, asked))
                    self.exactly(found.yes, plain.table[prime][plain.worth_of(shape)])
                    self.exactly(found.asked, cut_search(lattice, Tree(shape), question_of(lattice, prime)).asked)

    def test_example(self):
        found = ask_prime(set_lattice(2), Tree(EXAMPLE), 2)
        self.assertEqual(found, Answer(2, True, (0, 2, 3)))


class TestWorths(Case):
    def test_trees(self):
        for lattice in DISTRIBUTIVE:
            plain, draw = Plain(lattice), random.Random(lattice.size)
            for shape in some_shapes(lattice, "answers", 12):
                tree = Tree(shape)
                worth = plain.worth_of(shape)
                for guess in [None] + draw.sample(plain.worths, min(3, lattice.size)):
                    order = own_order(plain, guess, lambda prime: plain.table[prime][worth])
                    wanted = (worth, [(prime, yes, yes_no(plain, shape, prime)[1]) for prime, yes in order])
                    found = worth_by_primes(lattice, tree) if guess is None else stepped_worth(lattice, tree, guess)
                    self.assertIsInstance(found, Answers)
                    self.exactly(told(found), wanted)

    def test_games(self):
        for lattice in DISTRIBUTIVE:
            plain, draw = Plain(lattice), random.Random(lattice.size)
            for rules, start in lively_games(lattice.size, 2, 60, 6, min(3, lattice.size)):
                worth = plain.worth_of(own_shape(rules, start))
                for make in [lambda: None] + memories(lattice):
                    memory = make()
                    for guess in draw.sample(plain.worths, min(2, lattice.size)):
                        own = copy.deepcopy(memory)
                        asked = {}

                        def ask(prime):
                            looked = memory_search(lattice, rules, start, question_of(lattice, prime), own)
                            asked[prime] = looked.asked
                            return plain.table[prime][worth]
                        order = own_order(plain, guess, ask)
                        found = stepped_play(lattice, rules, start, guess, memory)
                        self.exactly(told(found), (worth, [(prime, yes, asked[prime]) for prime, yes in order]))
                        if memory is not None:
                            self.exactly(kept_in(memory), kept_in(own))
                            self.exactly(memory_fault(lattice, rules, memory), None)

    def test_examples(self):
        lattice, tree = set_lattice(2), Tree(EXAMPLE)
        found = worth_by_primes(lattice, tree)
        self.exactly(told(found), (3, [(1, True, (0, 1)), (2, True, (0, 2, 3))]))
        self.exactly(told(stepped_worth(lattice, tree, 3)), (3, [(2, True, (0, 2, 3)), (1, True, (0, 1))]))
        self.exactly(told(stepped_worth(lattice, tree, 0)), (3, [(1, True, (0, 1)), (2, True, (0, 2, 3))]))
        chain = chain_lattice(5)
        shape = Tree(("joins", (2, 1)))
        self.exactly([row[:2] for row in told(worth_by_primes(chain, shape))[1]], [(1, True), (2, True), (3, False)])
        self.exactly([row[:2] for row in told(stepped_worth(chain, shape, 2))[1]], [(2, True), (3, False)])
        self.exactly([row[:2] for row in told(stepped_worth(chain, shape, 4))[1]],
                     [(4, False), (3, False), (2, True)])
        self.exactly([row[:2] for row in told(stepped_worth(chain, shape, 0))[1]],
                     [(1, True), (2, True), (3, False)])

    def test_one_worth_alone(self):
        lattice = set_lattice(0)
        self.exactly(told(worth_by_primes(lattice, Tree(0))), (0, []))
        self.exactly(told(stepped_worth(lattice, Tree(0), 0)), (0, []))

    def test_not_prime_ahead_of_the_guess(self):
        rules, start = game(PLAYS_4000)
        for lattice in OTHERS:
            plain = Plain(lattice)
            firm = own_firm(plain)
            least = min(prime for prime in own_primes(plain) if prime not in firm)
            self.refused(NotPrime, {"worth": least}, worth_by_primes, lattice, Tree(0))
            for guess in (0, -1, None, True):
                self.refused(NotPrime, {"worth": least}, stepped_worth, lattice, Tree(0), guess)
                self.refused(NotPrime, {"worth": least}, stepped_play, lattice, rules, start, guess, None)

    def test_bad_guesses(self):
        rules, start = game(PLAYS_4000)
        memory = Memory(set_lattice(2), 9)
        for guess in (-1, 4) + NO_NUMBERS:
            self.refused(BadGuess, {"guess": guess}, stepped_worth, set_lattice(2), Tree(0), guess)
            self.refused(BadGuess, {"guess": guess}, stepped_play, set_lattice(2), rules, start, guess, memory)
        self.exactly(len(memory), 0)

    def test_many_plays(self):
        rules, start = game(PLAYS_4000)
        lattice = set_lattice(2)
        worth = memory_search(lattice, rules, start, (0, 3)).worth
        self.exactly(stepped_play(lattice, rules, start, 2, Spans(lattice)).worth, worth)
        self.exactly(stepped_play(lattice, rules, start, 1, None).worth, worth)


class TestResults(Case):
    def test_answer(self):
        self.assertEqual(Answer(1, True, (0,)), Answer(1, True, (0,)))
        for other in (Answer(2, True, (0,)), Answer(1, False, (0,)), Answer(1, True, (1,)), (1, True, (0,)), None):
            self.assertNotEqual(Answer(1, True, (0,)), other)
        things = [object(), [1], {}]
        for thing, name in zip(things, ("prime", "yes", "asked")):
            self.assertIs(getattr(Answer(*things), name), thing)

    def test_answers(self):
        rows = [Answer(1, True, (0,)), Answer(2, False, ())]
        answers = Answers(1, rows)
        self.assertEqual(answers, Answers(1, tuple(rows)))
        self.assertEqual(answers.answers, tuple(rows))
        self.assertIsInstance(answers.answers, tuple)
        self.assertEqual(list(answers), rows)
        self.assertEqual([answer.prime for answer in answers], [1, 2])
        self.exactly((len(answers), len(Answers(0, ()))), (2, 0))
        for other in (Answers(2, rows), Answers(1, rows[:1]), Answers(1, rows[::-1]), tuple(rows), rows, (1, tuple(rows)), None):
            self.assertNotEqual(answers, other)
        rows.pop()
        self.exactly(len(answers), 2)
        thing = object()
        self.assertIs(Answers(thing, []).worth, thing)
        # Results check nothing.
        self.assertIs(Answers(0, thing).answers, thing)
