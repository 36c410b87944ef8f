"""Questions: whether a prime is at most the worth, and the worth by its primes."""

from cutworths.checks import is_sequence
from cutworths.cutting import cut_search
from cutworths.errors import BadGuess, NotPrime
from cutworths.kepts import memory_search
from cutworths.lattices import is_worth
from cutworths.maps import check_firm, is_firm


class Answer:
    """Whether a prime is at most a worth, and what was asked to know it."""

    def __init__(self, prime, yes, asked):
        self.prime = prime
        self.yes = yes
        self.asked = asked

    def __eq__(self, other):
        return (isinstance(other, Answer) and self.prime == other.prime and self.yes == other.yes
                and self.asked == other.asked)


class Answers:
    """A worth and the answers from which it is known, in the order of asking."""

    def __init__(self, worth, answers):
        self.worth = worth
        self.answers = tuple(answers) if is_sequence(answers) else answers

    def __eq__(self, other):
        return isinstance(other, Answers) and self.worth == other.worth and self.answers == other.answers

    def __len__(self):
        return len(self.answers)

    def __iter__(self):
        return iter(self.answers)


def rival_of(lattice, prime):
    """Return the greatest of the worths that the prime is not at most, or raise NoWorth or NotPrime."""
    check_firm(lattice, prime)
    return lattice.join_all([worth for worth in range(lattice.size) if not lattice.at_most(prime, worth)])


def question_of(lattice, prime):
    """Return the context that asks whether the prime is at most a worth, or raise NoWorth or NotPrime."""
    check_firm(lattice, prime)
    below = [worth for worth in range(lattice.size) if worth != prime and lattice.at_most(worth, prime)]
    return (lattice.join_all(below), prime)


def ask_prime(lattice, tree, prime):
    """Search a tree for whether the prime is at most its worth, or raise NoWorth or NotPrime."""
    found = cut_search(lattice, tree, question_of(lattice, prime))
    return Answer(prime, lattice.at_most(prime, found.worth), found.asked)


def _play_prime(lattice, rules, position, prime, memory):
    """Search a game for whether the prime is at most its worth."""
    looked = memory_search(lattice, rules, position, question_of(lattice, prime), memory)
    return Answer(prime, lattice.at_most(prime, looked.worth), looked.asked)


def _check_primes(lattice):
    """Raise NotPrime with the smallest prime that is not firm."""
    for prime in lattice.primes:
        if not is_firm(lattice, prime):
            raise NotPrime(prime)


def _check_guess(lattice, guess):
    """Raise BadGuess if the guess is no worth."""
    if not is_worth(lattice, guess):
        raise BadGuess(guess)


def _settles(lattice, answer, prime):
    """Return whether an answer decides a prime."""
    if answer.yes:
        return lattice.at_most(prime, answer.prime)
    return lattice.at_most(answer.prime, prime)


def _undecided(lattice, answers):
    """Return the primes that no answer decides, ascending."""
    return [prime for prime in lattice.primes
            if not any([_settles(lattice, answer, prime) for answer in answers])]


def _uppermost(lattice, primes):
    """Return those of these primes that are below no other of them."""
    return [prime for prime in primes
            if not any([prime != other and lattice.at_most(prime, other) for other in primes])]


def _lowermost(lattice, primes):
    """Return those of these primes that no other of them is below."""
    return [prime for prime in primes
            if not any([prime != other and lattice.at_most(other, prime) for other in primes])]


def _next_prime(lattice, primes, guess):
    """Return which of the undecided primes is asked next; without a guess the smallest."""
    if guess is None:
        return primes[0]
    within = [prime for prime in primes if lattice.at_most(prime, guess)]
    if len(within) > 0:
        return _uppermost(lattice, within)[-1]
    return _lowermost(lattice, primes)[0]


def _all_answers(lattice, guess, ask):
    """Ask primes until all are decided; ask(prime) returns the answer."""
    answers = []
    primes = _undecided(lattice, answers)
    while len(primes) > 0:
        answers.append(ask(_next_prime(lattice, primes, guess)))
        primes = _undecided(lattice, answers)
    return Answers(lattice.join_all([answer.prime for answer in answers if answer.yes]), answers)


def worth_by_primes(lattice, tree):
    """Return the worth of a tree by its primes, the smallest first, or raise NotPrime."""
    _check_primes(lattice)
    return _all_answers(lattice, None, lambda prime: ask_prime(lattice, tree, prime))


def stepped_worth(lattice, tree, guess):
    """Return the worth of a tree by its primes, those of the guess first, or raise NotPrime or BadGuess."""
    _check_primes(lattice)
    _check_guess(lattice, guess)
    return _all_answers(lattice, guess, lambda prime: ask_prime(lattice, tree, prime))


def stepped_play(lattice, rules, position, guess, memory):
    """Return the worth of a game by its primes, with one memory for all, or raise NotPrime or BadGuess."""
    _check_primes(lattice)
    _check_guess(lattice, guess)
    return _all_answers(lattice, guess, lambda prime: _play_prime(lattice, rules, position, prime, memory))
